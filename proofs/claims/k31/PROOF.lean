import PyProof.Rows.All
import Wide.All
import OpenK.AllK
import Wide.FinOn
import PySem.Challenge.RW_nestedwishes_k31_store_shows
import HandS.DeepEq
import HandS.Defaults
import HandS.DictComp
import HandS.DictTup
import HandS.ExcCtx
import HandS.ExcField
import HandS.ExcInit
import HandS.ExcInitHot
import HandS.ExcIs
import HandS.ForExc
import HandS.ForMost
import HandS.Head0
import HandS.Head1
import HandS.Head2
import HandS.HeadEnd
import HandS.HeadHook1
import HandS.HeadHook2
import HandS.HotCalls
import HandS.IsInst
import HandS.More
import HandS.OwnEq
import HandS.ReHeld
import HandS.Set
import HandS.SetFor
import HandS.Sort
import HandS.SortKw
import HandS.Star
import HandS.Strs
import HandS.Style
import HandS.TupAny
import HandS.Walk
import KE.DataMinMax
import KE.KDictCopyH
import KE.KExcIs
set_option Elab.async false
set_option linter.all false
set_option maxRecDepth 100000
set_option maxHeartbeats 4000000
namespace NW
open PySem PySem.Spec PyProof.Rows L2
section
variable {X : Cx} {pins : List (Addr × Obj)} {σ : L2.St} {H : Hp} {s : Shared}
theorem star_dk {a : Addr} {kvs : List (Key × V)} {E : Value → Shared → Prop} {Q : List Value → Shared → Prop} (hc : X.calm = true) (I : Inv X pins σ H s) (h : Rd H a (.dK kvs))
  (hQ : ∀ us s', Inv X pins σ H s' → Vals (kvs.map fun kv => kV kv.1) us → Q us s') : PySem.W.StarOf (model X.prog X.w) X.A E (.ref a) Q s := by
 obtain ⟨z, lo, vs, rel, dd⟩ := dk_rd I.hok h
 obtain ⟨ep, hat⟩ := dd.dictAt
 have ek : (kvs.map fun kv => kV kv.1) = vs.map fun p => kV p.1 := by
  have e := congrArg (List.map kV) rel.keys
  rw [List.map_map, List.map_map] at e
  exact e
 have hT : s.TypeIs (.ref a) "dict" := dd.typeIs
 have zz : wpAny (model X.prog X.w) X.A (collect (.ref a)) Q E s := by
  refine PySem.W.kdu_collect (A := X.A) (PySem.W.kdl_dict (knd := mixKind X.prog X.w) (kvs := vs) (ep := ep) lo) (I.ok.hd hc) hat (by rw [← rel.length]; exact z) fun h' tk acc hk hacc => ?_
  have hv : Vals (vs.map fun p => kV p.1) acc.toList := keys_at (by rw [Array.length_toList]; exact hacc.1) fun j v e => hacc.2 j v (by rw [← Array.getElem?_toList]; exact e)
  exact hQ _ _ (I.kept hk) (by rw [ek]; exact hv)
 unfold PySem.W.StarOf notIterableAtAll
 exact wpAny_bind (wpAny_specialOf hT PySem.F.slot_dict_iter.lookup (wpAny_pure ⟨rfl, zz⟩))
def tStarD (te : TE) (t : TA) : TA := fun σ H Q => te σ H fun x H1 => ∃ p kvs, x = V.ref p ∧ Rd H1 p (.dK kvs) ∧ t σ H1 fun ys H2 => Q ((kvs.map fun kv => kV kv.1) ++ ys) H2
theorem pa_starD {e : Expr} {p : Pos} {es : List Expr} {te : TE} {t : TA} (hc : X.calm = true) (he : PE X e te) (hr : PA X es t) (hs : starEach (.Starred e p :: es) X.env = (true, eval e X.env) :: starEach es X.env := by rfl) :
  PA X (.Starred e p :: es) (tStarD te t) := by
 refine ⟨fun pos pins s σ H Q I h => ?_⟩
 refine PySem.W.items_star (thn (he.run pins s σ H _ I h) fun v s1 ⟨y, H1, I1, ry, a, xs, ey, hx, q⟩ => ?_) hs
 subst ey
 obtain rfl : v = Value.ref a := ry
 refine star_dk hc I1 hx fun us s2 I2 rv => ?_
 exact thn (hr.run pos pins s2 σ H1 _ I2 q) fun ws s3 ⟨vs, H3, I3, r3, q3⟩ => ⟨_ ++ vs, H3, I3, rv.append r3, q3⟩
structure InM (K : PySem.W.Frag) (C f : Addr) : Prop where
 at_ : PySem.W.findIn K (.ref C) "__contains__" = some (some (.ref f))
 fn : PySem.W.isFn K (.ref f) = true
section
variable {CX : CXT} {k : Nat} {C f : Addr} {fd : FuncData} {ps : List Str} {sp : Sp} {E : XK} {ds : List Value} {dvs : List V}
theorem contains_own {a dx : Addr} {fs : List (Str × V)} {Q : Bool → Hp → Prop} {y : V} {v : Value} (m : InM X.K C f) (F : FnOk X.prog X.w X.K X.mg X.base CX k f fd ps sp) (hr : Room k X.A) (hb : Binds X.K fd ps ds) (hd : Vals dvs ds) (hx : Passes CX X E)
  (I : Inv X pins σ H s) (e : H a = some (.ins C dx fs)) (ry : RelV y v) (h : sp ([.ref a, y] ++ dvs) H (fun r H' => ∃ b, r = .bl b ∧ Q b H') E) :
  wpAny (model X.prog X.w) X.A (contains (.ref a) v) (fun b s' => ∃ H', Inv X pins σ H' s' ∧ Q b H') X.xe s := by
 obtain ⟨mA, O, r, _, _, _⟩ := ins_get I.hok e
 obtain ⟨od, J, hl⟩ := O.look
 have KX := I.kIn
 unfold contains
 refine wpAny_holding (wpAny_bind (wpAny_bind (J.type.here ((PySem.W.looks_findIn KX m.at_).here ?_))))
 rw [if_neg (by simp)]
 refine wpAny_bind (PySem.W.unlessNone_K KX J m.at_ m.fn ?_)
 refine thn (run_fn (us := [.ref a, v]) (vs := [.ref a, y]) F hr hb hd hx I (.cons rfl (.cons ry .nil)) h) fun u s' ⟨x, H', I', rx, b, ex, q⟩ => ?_
 subst ex
 cases rx
 exact wpAny_truthy_bool ⟨H', I', q⟩
theorem op_notIn_own (m : InM X.K C f) (F : FnOk X.prog X.w X.K X.mg X.base CX k f fd ps sp) (hr : Room k X.A) (hb : Binds X.K fd ps ds) (hd : Vals dvs ds) (hx : Passes CX X E) :
  OpR X (compareOp .NotIn) (fun x y H Q => ∃ a dx fs, y = .ref a ∧ H a = some (.ins C dx fs) ∧ sp ([.ref a, x] ++ dvs) H (fun r H' => ∃ b, r = .bl b ∧ Q (.bl (!b)) H') E) := by
 intro pins s σ H x y u v Q I rx ry h
 obtain ⟨a, dx, fs, rfl, ea, q⟩ := h
 cases ry
 exact wpAny_bind (thn (contains_own (Q := fun b H' => Q (.bl (!b)) H') m F hr hb hd hx I ea rx q) fun b s' ⟨H', I', q'⟩ => wpAny_pure ⟨.bl (!b), H', I', rfl, q'⟩)
end
end
end NW
namespace NW
open PySem PySem.Spec PyProof.Rows L2
def topS (i : Nat) : Stmt := PySem.Challenge.pw_nestedwishes_k31_store_shows.main.body.getD i (.Pass ⟨0, 0, 0, 0⟩)
structure Df (K : PySem.W.Frag) (mg : Str → Option Value) (x : Str) (st : Stmt) (f : Addr) (fd : FuncData) (ps : List Str) : Prop where
 F : Fun K x x st f fd
 b : Binds K fd ps []
 g : mg x = some (.ref f)
structure Nms (mg : Str → Option Value) : Prop where
 n_len : mg "len" = none
 n_int : mg "int" = none
 n_str : mg "str" = none
 n_list : mg "list" = none
 n_tuple : mg "tuple" = none
 n_dict : mg "dict" = none
 n_set : mg "set" = none
 n_range : mg "range" = none
 n_sorted : mg "sorted" = none
 n_all : mg "all" = none
 n_isinstance : mg "isinstance" = none
 n_enumerate : mg "enumerate" = none
 n_bool : mg "bool" = none
def Gr (b : Addr) (H H' : Hp) : Prop := ∀ a o, a ≠ b → H a = some o → H' a = some o
theorem Gr.refl {b : Addr} {H : Hp} : Gr b H H := fun _ _ _ e => e
theorem Gr.trans {b : Addr} {H H1 H2 : Hp} (x : Gr b H H1) (y : Gr b H1 H2) : Gr b H H2 := fun a o n e => y a o n (x a o n e)
theorem Gr.box {b : Addr} {H : Hp} {o : HO} : Gr b H (upd H b o) := fun a u n e => by rw [upd_ne n]; exact e
theorem Gr.new {b p : Addr} {H : Hp} {o : HO} (h : H p = none) : Gr b H (upd H p o) := fun a u _ e => by rw [upd_ne (ne_of_none e h)]; exact e
theorem Same.gr {b : Addr} {H H' : Hp} (h : L2.Same H H') : Gr b H H' := fun a o _ e => h a o e
theorem Gr.upd {b p : Addr} {H H1 : Hp} {o : HO} (x : Gr b H H1) (h : H p = none) : Gr b H (upd H1 p o) := fun a u n e => by rw [upd_ne (ne_of_none e h)]; exact x a u n e
theorem Gr.free {b p : Addr} {H H1 : Hp} (x : Gr b H H1) (n : p ≠ b) (h : H1 p = none) : H p = none := by
 cases q : H p with
 | none => rfl
 | some o => rw [x p o n q] at h; cases h
def bl (r : Addr) (i g z c : Int) : List V := [.ref r, .int i, .int g, .int z, .int c]
structure BoxW (H : Hp) (b r : Addr) (ns : List Int) (i g z c : Int) : Prop where
 at_ : H b = some (.lst (bl r i g z c))
 lst : H r = some (.lst (ns.map V.int))
 ne : r ≠ b
 len : ns.length ≤ 63
 i0 : 0 ≤ i
 z0 : 0 ≤ z
 z1 : z < 2147483648
def Box (H : Hp) (b r : Addr) : Prop := ∃ ns i g z c, BoxW H b r ns i g z c
theorem Box.lst {H : Hp} {b r : Addr} (h : Box H b r) : ∃ xs, H b = some (.lst xs) := by
 obtain ⟨ns, i, g, z, c, w⟩ := h
 exact ⟨_, w.at_⟩
theorem Box.rls {H : Hp} {b r : Addr} (h : Box H b r) : ∃ xs, H r = some (.lst xs) := by
 obtain ⟨ns, i, g, z, c, w⟩ := h
 exact ⟨_, w.lst⟩
theorem Box.gr {H H' : Hp} {b r : Addr} (h : Box H b r) (x : Gr b H H') (e : H' b = H b) : Box H' b r := by
 obtain ⟨ns, i, g, z, c, w⟩ := h
 exact ⟨ns, i, g, z, c, by rw [e]; exact w.at_, x _ _ w.ne w.lst, w.ne, w.len, w.i0, w.z0, w.z1⟩
theorem Box.new {H : Hp} {b r p : Addr} {o : HO} (h : Box H b r) (hp : H p = none) : Box (upd H p o) b r := by
 obtain ⟨xs, e⟩ := h.lst
 exact h.gr (Gr.new hp) (upd_ne (ne_of_none e hp))
theorem Box.upd {H : Hp} {b r p : Addr} {o : HO} (h : Box H b r) (n : p ≠ b) (hp : p ≠ r) : Box (upd H p o) b r := by
 obtain ⟨ns, i, g, z, c, w⟩ := h
 exact ⟨ns, i, g, z, c, by rw [upd_ne n.symm]; exact w.at_, by rw [upd_ne hp.symm]; exact w.lst, w.ne, w.len, w.i0, w.z0, w.z1⟩
theorem Box.neb {H : Hp} {b r p : Addr} (h : Box H b r) (hp : H p = none) : p ≠ b := by
 obtain ⟨xs, e⟩ := h.lst
 exact (ne_of_none e hp).symm
theorem Box.ner {H : Hp} {b r p : Addr} (h : Box H b r) (hp : H p = none) : p ≠ r := by
 obtain ⟨xs, e⟩ := h.rls
 exact (ne_of_none e hp).symm
theorem BoxW.set {H : Hp} {b r : Addr} {ns : List Int} {i g z c : Int} (w : BoxW H b r ns i g z c) {i' g' z' c' : Int} (hi : 0 ≤ i') (hz : 0 ≤ z') (hz1 : z' < 2147483648) : BoxW (L2.upd H b (.lst (bl r i' g' z' c'))) b r ns i' g' z' c' :=
 ⟨upd_same, by rw [upd_ne w.ne]; exact w.lst, w.ne, w.len, hi, hz, hz1⟩
theorem BoxW.sq {K : PySem.W.Frag} {H : Hp} {b r : Addr} {ns : List Int} {i g z c : Int} (w : BoxW H b r ns i g z c) : SqL K H b (bl r i g z c) := SqL.of w.at_
theorem at0 {r : Addr} {i g z c : Int} : atI (bl r i g z c) 0 = some (.ref r) := atI_nat (j := 0) rfl
theorem at1 {r : Addr} {i g z c : Int} : atI (bl r i g z c) 1 = some (.int i) := atI_nat (j := 1) rfl
theorem at2 {r : Addr} {i g z c : Int} : atI (bl r i g z c) 2 = some (.int g) := atI_nat (j := 2) rfl
theorem at3 {r : Addr} {i g z c : Int} : atI (bl r i g z c) 3 = some (.int z) := atI_nat (j := 3) rfl
theorem at4 {r : Addr} {i g z c : Int} : atI (bl r i g z c) 4 = some (.int c) := atI_nat (j := 4) rfl
end NW
namespace NW
open PySem PySem.Spec PyProof.Rows L2
theorem cut1 {t1 u : TS} {D : Ends} {σ : L2.St} {H : Hp} (G : L2.St → Hp → Prop) (hr : ∀ σ' H', G σ' H' → u D σ' H') (h : (∀ σ' H', G σ' H' → u D σ' H') → tSeq t1 u D σ H) : tSeq t1 u D σ H := h hr
theorem cut2 {t1 t2 u : TS} {D : Ends} {σ : L2.St} {H : Hp} (G : L2.St → Hp → Prop) (hr : ∀ σ' H', G σ' H' → u D σ' H') (h : (∀ σ' H', G σ' H' → u D σ' H') → tSeq t1 (tSeq t2 u) D σ H) : tSeq t1 (tSeq t2 u) D σ H := h hr
end NW
namespace NW
theorem nz {n : Int} (h : (n == 0) = false) : n ≠ 0 := by
 intro e
 rw [e] at h
 cases h
end NW
namespace NW
open PySem PySem.Spec PyProof.Rows L2
theorem lcT {σ : L2.St} {H : Hp} {f g : Hp → Prop} (h : f H) : tYes σ H (fun b H3 => if b = true then f H3 else g H3) := by
 show (if true = true then f H else g H)
 rw [if_pos rfl]
 exact h
end NW
namespace NW
open PySem PySem.Spec PyProof.Rows L2
theorem blT {p : Prop} [Decidable p] (h : p) : V.bl (decide p) = V.bl true := by rw [decide_eq_true h]
theorem blF {p : Prop} [Decidable p] (h : ¬ p) : V.bl (decide p) = V.bl false := by rw [decide_eq_false h]
theorem blNF {p : Prop} [Decidable p] (h : p) : V.bl (!decide p) = V.bl false := by rw [decide_eq_true h]; rfl
end NW
namespace NW
open PySem PySem.Spec PyProof.Rows L2
def hxV (a b : Option Value) : Bool := decide (a = b)
def oexC1 (K : PySem.W.Frag) (C : Addr) : Bool := match K.lookup C with
 | some ⟨.type "type", _, .cls cd, sl⟩ => (match cd.mro, sl.toList with
  | .ref C' :: bm, [_, _, _, _, some (.builtin n), _] => C' == C && (n == "ValueError.__new__" && (!cd.hasDel && (cd.hasDict && PySem.HandSPX.refsVE bm)))
  | _, _ => false)
 | _ => false
def oexB (K : PySem.W.Frag) (C : Addr) : Bool := oexC1 K C && (He.eqO (PySem.W.findIn K (.ref C) "__setattr__") (some (some (.builtin "object.__setattr__"))) && (decide (PySem.W.subIn K (.ref C) (.type "BaseException") = some true) && (hxV (PySem.W.typeIn K (.ref C)) (some (.type "type")) && PySem.W.keepIn K (.ref C))))
theorem oex_ok {K : PySem.W.Frag} {C : Addr} (h : oexB K C = true) : OexC K C := by
 obtain ⟨h1, h⟩ := He.ba h
 obtain ⟨h2, h⟩ := He.ba h
 obtain ⟨h3, h⟩ := He.ba h
 obtain ⟨h4, h5⟩ := He.ba h
 refine ⟨?_, He.eqO_ok h2, of_decide_eq_true h3, of_decide_eq_true h4, h5⟩
 unfold oexC1 at h1
 split at h1
 ·rename_i dd cd sl ho
  split at h1
  ·rename_i C' bm k0 k1 k2 k3 n k5 hm hs
   simp only [Bool.and_eq_true, beq_iff_eq, Bool.not_eq_true'] at h1
   obtain ⟨rfl, rfl, hdel, hd0, hr⟩ := h1
   obtain ⟨nm, bs, mro, ns, qn, hd, sn, sub, ab, col, del⟩ := cd
   dsimp only at hm hdel hd0
   subst hm hdel hd0
   have hsl : sl = #[k0, k1, k2, k3, some (.builtin "ValueError.__new__"), k5] := by
    obtain ⟨l⟩ := sl
    simp only at hs
    rw [hs]
   subst hsl
   exact ⟨_, _, _, _, _, _, _, _, _, _, _, _, _, _, _, ho, hr⟩
  ·cases h1
 ·cases h1
def nobB (K : PySem.W.Frag) (x : Str) (fs : List Str) : Bool := oexB K (He.ga K x) && (He.eqO (PySem.W.findIn K (.ref (He.ga K x)) "__init__") (some (some (.ref (He.ma K (He.ga K x) "__init__")))) && (hxV (PySem.W.typeIn K (.ref (He.ma K (He.ga K x) "__init__"))) (some (.type "function")) && fs.all fun f => He.eqO (PySem.W.findIn K (.ref (He.ga K x)) f) (some none)))
theorem nob_1 {K : PySem.W.Frag} {x : Str} {fs : List Str} (h : nobB K x fs = true) : OexC K (He.ga K x) := oex_ok (He.ba h).1
theorem nob_2 {K : PySem.W.Frag} {x : Str} {fs : List Str} (h : nobB K x fs = true) : PySem.W.findIn K (.ref (He.ga K x)) "__init__" = some (some (.ref (He.ma K (He.ga K x) "__init__"))) := He.eqO_ok (He.ba (He.ba h).2).1
theorem nob_3 {K : PySem.W.Frag} {x : Str} {fs : List Str} (h : nobB K x fs = true) : PySem.W.typeIn K (.ref (He.ma K (He.ga K x) "__init__")) = some (.type "function") := of_decide_eq_true (He.ba (He.ba (He.ba h).2).2).1
theorem nob_no {K : PySem.W.Frag} {C x : Str} {fs : List Str} (h : nobB K C fs = true) (m : x ∈ fs) : PySem.W.findIn K (.ref (He.ga K C)) x = some none := He.eqO_ok (List.all_eq_true.mp (He.ba (He.ba (He.ba h).2).2).2 x m)
def hxB (a b : Option Bool) : Bool := decide (a = b)
def ciB (K : PySem.W.Frag) (C : Addr) : Bool := He.eqO (PySem.W.findIn K (.ref C) "__class__") (some (some (.builtin "object.__class__"))) && (He.eqO (PySem.W.specialIn K (.builtin "object.__class__") "__get__") (some (some (.builtin "getset_descriptor.__get__"))) && (hxB (PySem.W.takesIn K (.builtin "object.__class__")) (some true) && (hxB (PySem.W.mroIn K C (.type "object")) (some true) && hxB (PySem.W.kitOne K (.ref C) (.ref C)) (some true))))
theorem ci_ok {K : PySem.W.Frag} {C : Addr} (h : ciB K C = true) : PySem.W.findIn K (.ref C) "__class__" = some (some (.builtin "object.__class__")) ∧ PySem.W.specialIn K (.builtin "object.__class__") "__get__" = some (some (.builtin "getset_descriptor.__get__")) ∧ PySem.W.takesIn K (.builtin "object.__class__") = some true ∧ PySem.W.mroIn K C (.type "object") = some true ∧ PySem.W.kitOne K (.ref C) (.ref C) = some true := by
 obtain ⟨h1, h⟩ := He.ba h
 obtain ⟨h2, h⟩ := He.ba h
 obtain ⟨h3, h⟩ := He.ba h
 obtain ⟨h4, h5⟩ := He.ba h
 exact ⟨He.eqO_ok h1, He.eqO_ok h2, of_decide_eq_true h3, of_decide_eq_true h4, of_decide_eq_true h5⟩
def xfB (K : PySem.W.Frag) (C : Addr) : Bool := He.eqO (PySem.W.findIn K (.ref C) "__getattribute__") (some (some (.builtin "BaseException.__getattribute__"))) && (He.eqO (PySem.W.findIn K (.ref C) "__getattr__") (some none) && (decide (PySem.W.subIn K (.ref C) (.type "BaseException") = some true) && PySem.W.hasDictIn K C))
theorem xf_ok {K : PySem.W.Frag} {C : Addr} (h : xfB K C = true) : L2.XfC K C := by
 obtain ⟨h1, h⟩ := He.ba h
 obtain ⟨h2, h⟩ := He.ba h
 obtain ⟨h3, h4⟩ := He.ba h
 exact ⟨He.eqO_ok h1, He.eqO_ok h2, of_decide_eq_true h3, h4⟩
abbrev AlX := He.AlD × Bool
def obsX (fa : List He.Fa) (fn : List He.DefD) (xs : List (PySem.W.Frag → Bool)) (K : PySem.W.Frag) : AlX := (He.obsD fa fn K, xs.all fun x => x K)
end NW
namespace NW
open PySem PySem.Spec PyProof.Rows L2
def refsF (g : Addr → Option Obj) (a : Addr) : List Addr := match g a with
 | some o => He.refsD o
 | none => []
def asF (g : Addr → Option Obj) : Nat → List Addr → List Addr
 | 0, l => l
 | n + 1, l => l ++ asF g n (l.flatMap (refsF g))
def obsXG (n : Nat) (fa : List He.Fa) (fn : List He.DefD) (xs : List (PySem.W.Frag → Bool)) (g : Addr → Option Obj) : AlX := obsX fa fn xs (He.frG g (asF g n [mainGlobals]))
structure Prt where
 fa : List He.Fa
 fn : List He.DefD
 xs : List (PySem.W.Frag → Bool)
def obsP (n : Nat) (ps : List Prt) (g : Addr → Option Obj) : List AlX := ps.map fun p => obsXG n p.fa p.fn p.xs g
def hookP (n : Nat) (ps : List Prt) : PySem.W.Hook where
 α := List AlX
 obs := fun s => obsP n ps s.heap.get?
 val := fun _ => ps.map fun p => (He.valD p.fn, true)
 says := fun _ h => ∃ K : PySem.W.Frag, K.In h ∧ ∀ p ∈ ps, He.SaysD p.fa p.fn K ∧ ∀ x ∈ p.xs, x K = true
 of := fun _ _ e => ⟨_, He.frG_in, fun p hp => by
  have e1 := List.map_inj_left.mp e p hp
  exact ⟨(Prod.mk.inj e1).1, fun x m => List.all_eq_true.mp (Prod.mk.inj e1).2 x m⟩⟩
 keeps := fun _ _ _ ⟨K, hK, c⟩ k => ⟨K, PySem.W.Frag.In.keeps hK k, c⟩
theorem obsP_eq {n : Nat} {ps : List Prt} {g : Addr → Option Obj} {s : Shared} (h : ∀ a, g a = s.heap.get? a) : obsP n ps g = (hookP n ps).obs s := by
 have e : g = s.heap.get? := funext h
 rw [e] <;> rfl
theorem mapN {α β : Type} {e : Option α} {f : α → β} {b : β} (h1 : e.map f = some b) : e.map (fun s => [f s]) = some [b] := by
 cases e with
 | none => cases h1
 | some a => cases h1; rfl
theorem map3 {α β γ δ : Type} {e : Option α} {f : α → β} {g : α → γ} {h : α → δ} {b : β} {c : γ} {d : δ} (h1 : e.map f = some b) (h2 : e.map g = some c) (h3 : e.map h = some d) : e.map (fun s => (f s, g s, h s)) = some (b, c, d) := by
 cases e with
 | none => cases h1
 | some a => cases h1; cases h2; cases h3; rfl
end NW
set_option maxHeartbeats 0
namespace NW
open PySem PySem.Spec PyProof.Rows L2
namespace HQ
def names_0 : List PySem.Str := ["_wall", "__name__", "WishError", "BadSchema", "NoBase", "NoField", "BadStore", "NoThing", "LETTERS", "LONGEST", "is_name", "is_key", "is_plain_int", "LEAVES", "WRAPPERS", "MOST_WRAPPERS"]
def names_1 : List PySem.Str := ["is_shape", "is_sure", "MOST_KINDS", "MOST_FACES", "MOST_UNIONS", "MOST_KIND_FIELDS", "MOST_FACE_FIELDS", "MOST_UNION_KINDS", "check_schema", "check_names", "is_table", "is_choice", "is_fields", "is_kind", "is_face", "has_fields"]
def names_2 : List PySem.Str := ["is_union", "FAIL", "MOST_THINGS", "MOST_ITEMS", "MOST_LETTERS", "FIRST_SIGN", "LAST_SIGN", "BARRED_SIGN", "check_store", "check_things", "is_thing", "check_values", "is_value", "is_number", "is_text", "copied"]
def names_3 : List PySem.Str := ["Store", "copied_fields", "Schema", "_law_box", "_law_draw", "_law_words", "_law_shape", "_law_kind", "_law_schema", "_law_members", "_law_target", "_law_made", "_law_number", "_law_text", "_law_value", "_law_things"]
def names_4 : List PySem.Str := ["_law_copy", "_law_same", "_law_strange", "_law_pick", "_law_handed", "_law_missing", "_law_changed"]
def names : List PySem.Str := names_0 ++ names_1 ++ names_2 ++ names_3 ++ names_4
def fn0_0 : List He.DefD := [⟨("is_name", none), "is_name", "is_name", defArgs (topS 11), defBody (topS 11), defScope (topS 11), [], []⟩, ⟨("is_key", none), "is_key", "is_key", defArgs (topS 12), defBody (topS 12), defScope (topS 12), [], []⟩, ⟨("is_table", none), "is_table", "is_table", defArgs (topS 29), defBody (topS 29), defScope (topS 29), [], []⟩, ⟨("is_choice", none), "is_choice", "is_choice", defArgs (topS 30), defBody (topS 30), defScope (topS 30), [], []⟩, ⟨("is_fields", none), "is_fields", "is_fields", defArgs (topS 31), defBody (topS 31), defScope (topS 31), [], []⟩, ⟨("is_kind", none), "is_kind", "is_kind", defArgs (topS 32), defBody (topS 32), defScope (topS 32), [], []⟩, ⟨("has_fields", none), "has_fields", "has_fields", defArgs (topS 34), defBody (topS 34), defScope (topS 34), [], []⟩, ⟨("is_union", none), "is_union", "is_union", defArgs (topS 35), defBody (topS 35), defScope (topS 35), [], []⟩]
def fn0_1 : List He.DefD := [⟨("is_face", none), "is_face", "is_face", defArgs (topS 33), defBody (topS 33), defScope (topS 33), [], []⟩, ⟨("check_names", none), "check_names", "check_names", defArgs (topS 28), defBody (topS 28), defScope (topS 28), [], []⟩, ⟨("check_schema", none), "check_schema", "check_schema", defArgs (topS 27), defBody (topS 27), defScope (topS 27), [], []⟩, ⟨("_law_box", none), "_law_box", "_law_box", defArgs (topS 58), defBody (topS 58), defScope (topS 58), [], []⟩, ⟨("_law_draw", none), "_law_draw", "_law_draw", defArgs (topS 59), defBody (topS 59), defScope (topS 59), [], []⟩, ⟨("_law_words", none), "_law_words", "_law_words", defArgs (topS 60), defBody (topS 60), defScope (topS 60), [], []⟩, ⟨("_law_shape", none), "_law_shape", "_law_shape", defArgs (topS 61), defBody (topS 61), defScope (topS 61), [], []⟩, ⟨("_law_kind", none), "_law_kind", "_law_kind", defArgs (topS 62), defBody (topS 62), defScope (topS 62), [], []⟩]
def fn0_2 : List He.DefD := [⟨("_law_schema", none), "_law_schema", "_law_schema", defArgs (topS 63), defBody (topS 63), defScope (topS 63), [], []⟩, ⟨("_law_members", none), "_law_members", "_law_members", defArgs (topS 64), defBody (topS 64), defScope (topS 64), [], []⟩, ⟨("_law_made", none), "_law_made", "_law_made", defArgs (topS 66), defBody (topS 66), defScope (topS 66), [], []⟩, ⟨("_law_same", none), "_law_same", "_law_same", defArgs (topS 72), defBody (topS 72), defScope (topS 72), [], []⟩, ⟨("_law_strange", none), "_law_strange", "_law_strange", defArgs (topS 73), defBody (topS 73), defScope (topS 73), [], []⟩, ⟨("is_sure", none), "is_sure", "is_sure", defArgs (topS 19), defBody (topS 19), defScope (topS 19), [], []⟩, ⟨("is_plain_int", none), "is_plain_int", "is_plain_int", defArgs (topS 13), defBody (topS 13), defScope (topS 13), [], []⟩, ⟨("is_value", none), "is_value", "is_value", defArgs (topS 48), defBody (topS 48), defScope (topS 48), [], []⟩]
def fn0_3 : List He.DefD := [⟨("is_thing", none), "is_thing", "is_thing", defArgs (topS 46), defBody (topS 46), defScope (topS 46), [], []⟩, ⟨("check_things", none), "check_things", "check_things", defArgs (topS 45), defBody (topS 45), defScope (topS 45), [], []⟩, ⟨("check_values", none), "check_values", "check_values", defArgs (topS 47), defBody (topS 47), defScope (topS 47), [], []⟩, ⟨("is_number", none), "is_number", "is_number", defArgs (topS 49), defBody (topS 49), defScope (topS 49), [], []⟩, ⟨("is_text", none), "is_text", "is_text", defArgs (topS 50), defBody (topS 50), defScope (topS 50), [], []⟩, ⟨("check_store", none), "check_store", "check_store", defArgs (topS 44), defBody (topS 44), defScope (topS 44), [], []⟩, ⟨("copied", none), "copied", "copied", defArgs (topS 51), defBody (topS 51), defScope (topS 51), [], []⟩, ⟨("copied_fields", none), "copied_fields", "copied_fields", defArgs (topS 54), defBody (topS 54), defScope (topS 54), [], []⟩]
def fn0_4 : List He.DefD := [⟨("_law_target", none), "_law_target", "_law_target", defArgs (topS 65), defBody (topS 65), defScope (topS 65), [], []⟩, ⟨("_law_number", none), "_law_number", "_law_number", defArgs (topS 67), defBody (topS 67), defScope (topS 67), [], []⟩, ⟨("_law_text", none), "_law_text", "_law_text", defArgs (topS 68), defBody (topS 68), defScope (topS 68), [], []⟩, ⟨("_law_value", none), "_law_value", "_law_value", defArgs (topS 69), defBody (topS 69), defScope (topS 69), [], []⟩, ⟨("_law_things", none), "_law_things", "_law_things", defArgs (topS 70), defBody (topS 70), defScope (topS 70), [], []⟩, ⟨("_law_copy", none), "_law_copy", "_law_copy", defArgs (topS 71), defBody (topS 71), defScope (topS 71), [], []⟩, ⟨("_law_pick", none), "_law_pick", "_law_pick", defArgs (topS 74), defBody (topS 74), defScope (topS 74), [], []⟩, ⟨("_law_handed", none), "_law_handed", "_law_handed", defArgs (topS 75), defBody (topS 75), defScope (topS 75), [], []⟩]
def fn0_5 : List He.DefD := [⟨("_law_missing", none), "_law_missing", "_law_missing", defArgs (topS 76), defBody (topS 76), defScope (topS 76), [], []⟩, ⟨("_law_changed", none), "_law_changed", "_law_changed", defArgs (topS 77), defBody (topS 77), defScope (topS 77), [], []⟩, ⟨("is_shape", none), "is_shape", "is_shape", defArgs (topS 18), defBody (topS 18), defScope (topS 18), [.int 4, .str ""], []⟩, ⟨("law", none), "law", "law", defArgs (topS 78), defBody (topS 78), defScope (topS 78), [], []⟩, ⟨("Schema", some "bases"), "bases", "Schema.bases", defArgs (inClass (topS 56) 3), defBody (inClass (topS 56) 3), defScope (inClass (topS 56) 3), [], []⟩, ⟨("Schema", some "shapes_at"), "shapes_at", "Schema.shapes_at", defArgs (inClass (topS 56) 8), defBody (inClass (topS 56) 8), defScope (inClass (topS 56) 8), [], []⟩, ⟨("Schema", some "fields"), "fields", "Schema.fields", defArgs (inClass (topS 56) 9), defBody (inClass (topS 56) 9), defScope (inClass (topS 56) 9), [], []⟩, ⟨("Schema", some "shape_of"), "shape_of", "Schema.shape_of", defArgs (inClass (topS 56) 10), defBody (inClass (topS 56) 10), defScope (inClass (topS 56) 10), [], []⟩]
def fn0_6 : List He.DefD := [⟨("Schema", some "members"), "members", "Schema.members", defArgs (inClass (topS 56) 7), defBody (inClass (topS 56) 7), defScope (inClass (topS 56) 7), [], []⟩, ⟨("Schema", some "kinds"), "kinds", "Schema.kinds", defArgs (inClass (topS 56) 4), defBody (inClass (topS 56) 4), defScope (inClass (topS 56) 4), [], []⟩, ⟨("Store", some "things"), "things", "Store.things", defArgs (inClass (topS 53) 2), defBody (inClass (topS 53) 2), defScope (inClass (topS 53) 2), [], []⟩, ⟨("Store", some "kind_of"), "kind_of", "Store.kind_of", defArgs (inClass (topS 53) 3), defBody (inClass (topS 53) 3), defScope (inClass (topS 53) 3), [], []⟩, ⟨("Store", some "fields_with"), "fields_with", "Store.fields_with", defArgs (inClass (topS 53) 4), defBody (inClass (topS 53) 4), defScope (inClass (topS 53) 4), [], []⟩, ⟨("Store", some "value"), "value", "Store.value", defArgs (inClass (topS 53) 5), defBody (inClass (topS 53) 5), defScope (inClass (topS 53) 5), [], []⟩, ⟨("Schema", some "__init__"), "__init__", "Schema.__init__", defArgs (inClass (topS 56) 0), defBody (inClass (topS 56) 0), defScope (inClass (topS 56) 0), [], []⟩, ⟨("Store", some "__init__"), "__init__", "Store.__init__", defArgs (inClass (topS 53) 0), defBody (inClass (topS 53) 0), defScope (inClass (topS 53) 0), [], []⟩]
def fn0_7 : List He.DefD := [⟨("Schema", some "__contains__"), "__contains__", "Schema.__contains__", defArgs (inClass (topS 56) 2), defBody (inClass (topS 56) 2), defScope (inClass (topS 56) 2), [], []⟩, ⟨("Schema", some "__eq__"), "__eq__", "Schema.__eq__", defArgs (inClass (topS 56) 1), defBody (inClass (topS 56) 1), defScope (inClass (topS 56) 1), [], []⟩, ⟨("NoBase", some "__init__"), "__init__", "NoBase.__init__", defArgs (inClass (topS 4) 0), defBody (inClass (topS 4) 0), defScope (inClass (topS 4) 0), [], []⟩, ⟨("NoField", some "__init__"), "__init__", "NoField.__init__", defArgs (inClass (topS 5) 0), defBody (inClass (topS 5) 0), defScope (inClass (topS 5) 0), [], []⟩, ⟨("NoThing", some "__init__"), "__init__", "NoThing.__init__", defArgs (inClass (topS 7) 0), defBody (inClass (topS 7) 0), defScope (inClass (topS 7) 0), [], []⟩]
def fn0 : List He.DefD := fn0_0 ++ fn0_1 ++ fn0_2 ++ fn0_3 ++ fn0_4 ++ fn0_5 ++ fn0_6 ++ fn0_7
def fa0_0 : List He.Fa := [.glo "is_name", .glo "is_key", .glo "is_table", .glo "is_choice", .glo "is_fields", .glo "is_kind", .glo "has_fields", .glo "is_union", .glo "is_face", .glo "check_names", .glo "check_schema", .glo "_law_box"]
def fa0_1 : List He.Fa := [.glo "_law_draw", .glo "_law_words", .glo "_law_shape", .glo "_law_kind", .glo "_law_schema", .glo "_law_members", .glo "_law_made", .glo "_law_same", .glo "_law_strange", .glo "is_sure", .glo "is_plain_int", .glo "is_value"]
def fa0_2 : List He.Fa := [.glo "is_thing", .glo "check_things", .glo "check_values", .glo "is_number", .glo "is_text", .glo "check_store", .glo "copied", .glo "copied_fields", .glo "_law_target", .glo "_law_number", .glo "_law_text", .glo "_law_value"]
def fa0_3 : List He.Fa := [.glo "_law_things", .glo "_law_copy", .glo "_law_pick", .glo "_law_handed", .glo "_law_missing", .glo "_law_changed", .glo "is_shape", .glo "law", .meth "Schema" "bases", .meth "Schema" "shapes_at", .meth "Schema" "fields", .meth "Schema" "shape_of"]
def fa0_4 : List He.Fa := [.meth "Schema" "members", .meth "Schema" "kinds", .meth "Store" "things", .meth "Store" "kind_of", .meth "Store" "fields_with", .meth "Store" "value", .mkr "Schema", .glo "Schema", .cls "Schema", .noat "Schema" "kind_table", .noat "Schema" "face_table", .noat "Schema" "union_table"]
def fa0_5 : List He.Fa := [.noat "Schema" "root", .mkr "Store", .glo "Store", .cls "Store", .noat "Store" "schema", .noat "Store" "first", .noat "Store" "thing_table", .meth "Schema" "__contains__", .meth "Schema" "__eq__", .glo "NoBase", .glo "NoField", .glo "NoThing"]
def fa0_6 : List He.Fa := [.free "len", .free "int", .free "str", .free "list", .free "tuple", .free "dict", .free "set", .free "range", .free "sorted", .free "all", .free "isinstance", .free "enumerate"]
def fa0_7 : List He.Fa := [.free "bool", .free "abs", .free "ord", .int "MOST_THINGS" 12, .int "MOST_ITEMS" 6, .int "MOST_LETTERS" 12, .int "FIRST_SIGN" 32, .int "LAST_SIGN" 126, .int "BARRED_SIGN" 37, .str "LETTERS" "abcdefghijklmnopqrstuvwxyz", .int "LONGEST" 8, .glo "LEAVES"]
def fa0_8 : List He.Fa := [.glo "WRAPPERS", .int "MOST_KINDS" 6, .int "MOST_FACES" 3, .int "MOST_UNIONS" 3, .int "MOST_KIND_FIELDS" 5, .int "MOST_FACE_FIELDS" 4, .int "MOST_UNION_KINDS" 4, .exm "NoThing" "NoThing" true, .exm "NoField" "NoThing" false, .exm "NoField" "NoField" true, .glo "FAIL"]
def fa0 : List He.Fa := fa0_0 ++ fa0_1 ++ fa0_2 ++ fa0_3 ++ fa0_4 ++ fa0_5 ++ fa0_6 ++ fa0_7 ++ fa0_8
def xs0_0 : List (PySem.W.Frag → Bool) := [(fun K => He.tupB K "FAIL" [.str "fail"]), (fun K => nobB K "NoBase" ["base"]), (fun K => nobB K "NoField" ["base", "field"]), (fun K => nobB K "NoThing" ["thing"]), (fun K => xfB K (He.ga K "NoBase")), (fun K => xfB K (He.ga K "NoField")), (fun K => xfB K (He.ga K "NoThing")), (fun K => He.tupB K "LEAVES" [.str "number", .str "text"])]
def xs0_1 : List (PySem.W.Frag → Bool) := [(fun K => He.tupB K "WRAPPERS" [.str "list", .str "sure"]), (fun K => ciB K (He.ga K "Schema"))]
def xs0 : List (PySem.W.Frag → Bool) := xs0_0 ++ xs0_1
def p0 : Prt := ⟨fa0, fn0, xs0⟩
def ps : List Prt := [p0]
abbrev R : PySem.W.OpenRow := PySem.W.OpenLaw.row PySem.Challenge.rw_nestedwishes_k31_store_shows
abbrev hk : PySem.W.Hook := hookP 4 ps
def ob (s : PySem.W.SharedT) : List AlX := obsP 4 ps (HandSHeadRun.getT s)
theorem ob_eq (s : PySem.W.SharedT) : ob s = hk.obs s.abs := obsP_eq (HandSHeadRun.getT_eq s)
theorem mapA {α β γ : Type} {e : Option α} {f : α → β} {g : α → γ} {b : β} {c : γ} (h : e.map (fun s => (f s, g s)) = some (b, c)) : e.map f = some b ∧ e.map g = some c := by
 cases e with
 | none => cases h
 | some a => cases h; exact ⟨rfl, rfl⟩
theorem runA (w : World) (os : OsState) : (HandSHeadRun.endF (HandSHeadRun.stepQ (HandSHeadRun.denQ HandSHeadRun.tabQ) R.prog w) 40000 R.prog w os).map (fun s => (HandSHeadRun.looksF R.prog (PySem.W.boot_heap w.params) s.abs, HandSHeadRun.seenQ (PySem.W.view R.prog [78]) names (importedModules R.prog.main.body) (fun s => PySem.W.xlAt (PySem.W.view R.prog [78]) [] s && PySem.W.recOk R.toRowW.records s) s.abs)) = some (true, PySem.W.openGood (PySem.W.view R.prog [78]) names) := by kernel_rfl
theorem run3_0 (w : World) (os : OsState) : (HandSHeadRun.endF (HandSHeadRun.stepQ (HandSHeadRun.denQ HandSHeadRun.tabQ) R.prog w) 40000 R.prog w os).map (fun s => obsXG 4 p0.fa p0.fn p0.xs (HandSHeadRun.getT s)) = some (He.valD p0.fn, true) := by kernel_rfl
theorem run (w : World) : HandSHeadRun.RunEq R (PySem.W.view R.prog [78]) hk ob 40000 names w := fun os => map3 (mapA (runA w os)).1 (mapA (runA w os)).2 (mapN (run3_0 w os))
end HQ
end NW
set_option maxHeartbeats 0
namespace NW
namespace HQ
open PySem PySem.W PySem.Calls PyProof.Rows
abbrev Q : Program := PySem.W.view R.prog [78]
abbrev DF : DefRec := HandSHeadRun.topDef R.prog 78
theorem h_e : opening R.prog = plainProg R.prog.main.scope.names := by kernel_rfl
theorem h_f : ∀ s, fenceModules? R.prog s = some s := fun s => by kernel_rfl
theorem h_def : defOf Q R.name = some (DF, []) := by kernel_rfl
theorem h_p : R.prog.theDef R.name = some (DF.params, DF.body, DF.scope) := by kernel_rfl
theorem h_k : kwWritten? DF.params.kwonlyargs DF.params.kw_defaults = some [] := by kernel_rfl
theorem h_ok : (chainsOk Q && opensWell R.prog && (frees R.toRowW && R.within.isEmpty)) = true := by decide +kernel
theorem h_b : R.prog.bare := ⟨rfl, rfl, rfl, rfl, rfl, by decide +kernel⟩
theorem h_w : R.toRowW.promised := by w_witness2
theorem h_n : DF.name = ("law" : PySem.Str) := by kernel_rfl
theorem h_said (h : R.wellSaid = true → R.Holds) : PySem.Challenge.rw_nestedwishes_k31_store_shows.Holds := by
 w_on; o_law
 exact h (by assumption)
theorem head (call : WalkO Q names (XL Q []) hk.says R.toRowW DF [] fun f vs => PySem.call f vs) : PySem.Challenge.rw_nestedwishes_k31_store_shows.Holds :=
 h_said fun said => HandSHeadRun.head_any (r := R) (q := Q) (H := hk) (ob := ob) (M := 40000) (loose := names) (d := DF) (kwd := []) ob_eq h_e h_f run h_def h_p h_k rfl said h_ok h_b h_w call
end HQ
end NW
namespace NW
open PySem PySem.Spec PyProof.Rows L2
open TL (tl joinL tl_join join_eq)
abbrev LET : Str := "abcdefghijklmnopqrstuvwxyz"
theorem let_cps : LET.cps.toList = (List.range 26).map (97 + ·) := by decide +kernel
theorem let_at {k : Nat} (h : k < 26) : LET.cps.toList[k]? = some (97 + k) := by
 rw [let_cps, List.getElem?_map, List.getElem?_range h]
 rfl
theorem let_len : LET.length ≤ sizeLine := by decide +kernel
structure IsName (z : Str) : Prop where
 len1 : 1 ≤ z.length
 len8 : z.length ≤ 8
 low : ∀ c ∈ tl z, 97 ≤ c ∧ c ≤ 122
abbrev sgn (c : Nat) : Str := ⟨#[c]⟩
theorem tl_sgn (c : Nat) : tl (sgn c) = [c] := rfl
theorem len_tl (z : Str) : z.length = (tl z).length := by
 show z.cps.size = z.cps.toList.length
 rw [Array.length_toList]
theorem tl_cat (x y : Str) : tl (x ++ y) = tl x ++ tl y := by
 show (x.cps ++ y.cps).toList = _
 rw [Array.toList_append]
def mark (f : Nat) (z : Str) : Option Nat := if f = 0 then (tl z).getLast? else (tl z).head?
structure GoodW (f t : Nat) (z : Str) : Prop where
 nm : IsName z
 nt : z ≠ "text"
 nn : z ≠ "number"
 mrk : mark f z = some (97 + t)
theorem sgn_good {f t : Nat} (h : t < 26) : GoodW f t (sgn (97 + t)) := by
 refine ⟨⟨?_, ?_, ?_⟩, ?_, ?_, ?_⟩
 ·exact Nat.le_refl 1
 ·show 1 ≤ 8; decide
 ·intro c hc
  rw [tl_sgn] at hc
  have e := List.mem_singleton.mp hc
  omega
 ·intro e
  have e2 := congrArg Str.length e
  have : (("text" : Str)).length = 4 := by decide +kernel
  rw [this] at e2
  exact absurd e2 (by show ¬ (1 = 4); decide)
 ·intro e
  have e2 := congrArg Str.length e
  have : (("number" : Str)).length = 6 := by decide +kernel
  rw [this] at e2
  exact absurd e2 (by show ¬ (1 = 6); decide)
 ·unfold mark
  split <;> rfl
theorem word_good {f t : Nat} {x : Str} {cs : List Nat} (h : t < 26) (hx : tl x = cs) (hl : cs.length ≤ 7) (hc : ∀ c ∈ cs, 97 ≤ c ∧ c ≤ 122)
  (nt : (if f = 0 then x ++ sgn (97 + t) else sgn (97 + t) ++ x) ≠ "text") (nn : (if f = 0 then x ++ sgn (97 + t) else sgn (97 + t) ++ x) ≠ "number") : GoodW f t (if f = 0 then x ++ sgn (97 + t) else sgn (97 + t) ++ x) := by
 have el : (if f = 0 then x ++ sgn (97 + t) else sgn (97 + t) ++ x).length = cs.length + 1 := by
  split <;> (rw [len_tl, tl_cat, List.length_append, tl_sgn, hx, List.length_singleton] <;> omega)
 refine ⟨⟨by omega, by omega, fun c m => ?_⟩, nt, nn, ?_⟩
 ·have m2 : c ∈ cs ∨ c = 97 + t := by
   split at m
   ·rw [tl_cat, hx, tl_sgn] at m
    rcases List.mem_append.mp m with m | m
    ·exact .inl m
    ·exact .inr (List.mem_singleton.mp m)
   ·rw [tl_cat, hx, tl_sgn] at m
    rcases List.mem_append.mp m with m | m
    ·exact .inr (List.mem_singleton.mp m)
    ·exact .inl m
  rcases m2 with m2 | m2
  ·exact hc c m2
  ·omega
 ·unfold mark
  by_cases e : f = 0
  ·rw [if_pos e, if_pos e, tl_cat, tl_sgn, List.getLast?_append]
   rfl
  ·rw [if_neg e, if_neg e, tl_cat, tl_sgn]
   rfl
def WordsOk (f sh : Nat) (ws : List Str) : Prop := ∀ k (h : k < ws.length), GoodW f ((sh + k) % 26) ws[k]
theorem WordsOk.snoc {f sh : Nat} {ws : List Str} {z : Str} (h : WordsOk f sh ws) (g : GoodW f ((sh + ws.length) % 26) z) : WordsOk f sh (ws ++ [z]) := by
 intro k hk
 by_cases e : k < ws.length
 ·rw [List.getElem_append_left e]
  exact h k e
 ·have e2 : k = ws.length := by
   rw [List.length_append, List.length_singleton] at hk
   omega
  subst e2
  rw [List.getElem_append_right (Nat.le_refl _)]
  simp only [Nat.sub_self, List.getElem_cons_zero]
  exact g
theorem WordsOk.nodup {f sh : Nat} {ws : List Str} (h : WordsOk f sh ws) (hl : ws.length ≤ 26) : ws.Nodup := by
 refine List.pairwise_iff_getElem.mpr fun i j hi hj hij e1 => ?_
 have m1 := (h i hi).mrk
 have m2 := (h j hj).mrk
 rw [e1, m2] at m1
 have := Option.some.inj m1
 omega
theorem joinE : ∀ cs : List Nat, tl (Txt.join "" (cs.map fun c => sgn c)) = cs := by
 intro cs
 rw [join_eq, tl_join]
 have e0 : tl ("" : Str) = [] := by decide +kernel
 rw [e0]
 induction cs with
 | nil => rfl
 | cons c r ih =>
  cases r with
  | nil => rfl
  | cons d r =>
   show [c] ++ ([] ++ joinL [] (((d :: r).map fun c => sgn c).map tl)) = c :: d :: r
   rw [ih]
   rfl
theorem sgn_sum : ∀ cs : List Nat, ((cs.map fun c => sgn c).map Str.length).sum = cs.length := by
 intro cs
 induction cs with
 | nil => rfl
 | cons c r ih =>
  show 1 + ((r.map fun c => sgn c).map Str.length).sum = r.length + 1
  rw [ih]
  omega
end NW
namespace NW
open PySem PySem.Spec PyProof.Rows
section
variable {pr : Program} {wl : World} {Ar : Around} {Post : Result → Shared → Prop} {it : Addr} {foot writ : List Addr} {Gn : Array GenState → Array GenState → Prop} {n : Nat} {Pv : Nat → Value → Prop} {Stt : Nat → Shared → Prop}
def inTake (xs : List Str) (i : Nat) : Str → Bool := fun z => decide (z ∈ xs.take i)
theorem inTake_succ {xs : List Str} {i : Nat} (h : i < xs.length) (z : Str) : (inTake xs i z || decide (z = xs.getD i Str.empty)) = inTake xs (i + 1) z := by
 have e : xs.getD i Str.empty = xs[i] := by rw [List.getD_eq_getElem?_getD, List.getElem?_eq_getElem h]; rfl
 unfold inTake
 rw [e, List.take_add_one, List.getElem?_eq_getElem h, Bool.eq_iff_iff]
 simp only [Bool.or_eq_true, decide_eq_true_eq, List.mem_append, Option.toList_some, List.mem_singleton]
theorem inTake_no {xs : List Str} {i : Nat} (nd : xs.Nodup) (h : i < xs.length) : inTake xs i (xs.getD i Str.empty) = false := by
 have e : xs.getD i Str.empty = xs[i] := by rw [List.getD_eq_getElem?_getD, List.getElem?_eq_getElem h]; rfl
 unfold inTake
 rw [e]
 refine decide_eq_false fun m => ?_
 obtain ⟨j, hj, ej⟩ := List.getElem_of_mem m
 rw [List.getElem_take] at ej
 rw [List.length_take] at hj
 have := (List.getElem_inj nd).mp ej
 omega
theorem loopTx (Wk : WalksS pr wl Ar.in1 it foot writ Gn n Pv Stt) (sa : Addr) (out : sa ∉ foot) (xs : List Str) (lenx : xs.length = n) (nd : xs.Nodup) (few : n ≤ 1000) (tx : ∀ i v, Pv i v → ∃ t, v = .str (xs.getD i Str.empty) t) :
  ∀ (k i : Nat) (s : Shared), i + k = n → Stt i s → s.heap.SetOf (PySem.strKind pr wl) sa (inTake xs i) i →
   (∀ s2, Moved (sa :: writ) Gn s s2 → s2.heap.SetOf (PySem.strKind pr wl) sa (inTake xs n) n → Post (.ok (.ret .none)) s2) → codeAny (model pr wl) Ar (.builtin "set.update.loop" ⟨[.ref sa, .ref it], []⟩) Post s := by
 have notW : sa ∉ writ := fun z => out (Wk.sub _ z)
 have more : ∀ b ∈ writ, b ∈ sa :: writ := fun b m => List.mem_cons_of_mem _ m
 have carry : ∀ {s s2 : Shared} {i : Nat}, Moved writ Gn s s2 → s.heap.SetOf (PySem.strKind pr wl) sa (inTake xs i) i → s2.heap.SetOf (PySem.strKind pr wl) sa (inTake xs i) i := fun {s s2 i} mv st => by
  obtain ⟨o, es, ep, tb, ho, r⟩ := st
  exact ⟨o, es, ep, tb, mv.heap sa _ notW ho, r⟩
 intro k
 induction k with
 | zero =>
  intro i s e st held fin
  obtain rfl : i = n := e
  refine codeAny_builtin F.entry_set_update_loop ?_
  rw [Around.under_plainId F.plain_set_update_loop]
  show wpAny _ Ar.in1 (do let y ← pyNext (.ref it); _) _ _ s
  exact wpAny_bind (Wk.done s _ _ st fun s2 mv => wpAny_pure (fin s2 (mv.mono more) (carry mv held)))
 | succ k ih =>
  intro i s e st held fin
  have lt : i < n := by omega
  refine codeAny_builtin F.entry_set_update_loop ?_
  rw [Around.under_plainId F.plain_set_update_loop]
  show wpAny _ Ar.in1 (do let y ← pyNext (.ref it); _) _ _ s
  refine wpAny_bind (Wk.item i s _ _ lt st fun v s2 pv st2 mv => ?_)
  obtain ⟨t, rfl⟩ := tx i v pv
  have held2 := carry mv held
  generalize hz : xs.getD i Str.empty = z at *
  show wpAny _ Ar.in1 (do let _ ← holding [Value.str z t] (setAdd sa (.str z t)); _) _ _ s2
  refine wpAny_bind (wpAny_holding ?_)
  unfold setAdd
  refine wpAny_holding (wpAny_bind ((PySem.strKind pr wl).pyHash (k := z) (strKind_is _ _ _ _) ?_))
  refine wpAny_setAddHashed_of (knd := PySem.strKind pr wl) (s := { s2 with toks := s2.toks + 1 }) (strKind_is _ _ _ _) rfl held2 (by unfold scanBound; omega) fun h3 sb st3 => ?_
  have no : inTake xs i z = false := by rw [← hz]; exact inTake_no nd (by omega)
  have st4 : h3.SetOf (PySem.strKind pr wl) sa (inTake xs (i + 1)) (i + 1) := SetOf_congr st3 (fun y => by rw [← hz]; exact inTake_succ (by omega) y) (by rw [no]; rfl)
  refine wpAny_pure ⟨plainId_quiet F.plain_set_update_loop _, ih (i + 1) _ (by omega) (Wk.frame _ s2 _ _ st2 (Nat.le_succ _) fun b hb o eo => ?_) st4 fun s5 mv5 st5 => ?_⟩
  ·rw [sb.2 b fun z => out (z ▸ hb)]
   exact eo
  ·refine fin s5 (Moved.trans Wk.gtrans ((mv.mono more).then_heap (Nat.le_succ _) fun b o hb eo => ?_) mv5) st5
   rw [sb.2 b fun z => hb (z ▸ List.mem_cons_self)]
   exact eo
set_option maxHeartbeats 8000000 in
theorem setTx {tu : Addr} {its : Array Value} {xs : List Str} {Qv : Value → Shared → Prop} {Ex : Value → Shared → Prop} {s : Shared} (calm : Ar.handled = none) (tup : s.heap.IsTuple tu its) (txt : StrsAre its.toList xs) (nd : xs.Nodup) (few : xs.length ≤ 1000)
  (go : ∀ (h2 : Heap) (tk : Nat), h2.SetOf (PySem.strKind pr wl) s.heap.objs.size (inTake xs its.size) its.size → (∀ b o, b < s.heap.objs.size → s.heap.get? b = some o → h2.get? b = some o) → Qv (.ref s.heap.objs.size) { s with heap := h2, toks := tk }) :
  wpAny (model pr wl) Ar (call (.type "set") [.ref tu]) Qv Ex s := by
 obtain ⟨c0, tl0, hmro⟩ := PySem.F.called_set.mro
 have hmade := PySem.F.called_set.made
 have hsub := PySem.F.called_set.sub
 refine wpAny_call (codeAny_of_tree ?_)
 show wpAny _ _ (callAny (.type "set") _) _ _ _
 refine wpAny_pure ⟨Code.quiet_builtin _ (by decide +kernel), codeAny_builtin PySem.F.entry_type_call ?_⟩
 rw [Around.under_plain (weight_type_call_type "set" [.ref tu] []) rfl]
 have q1 := PySem.F.called_set.notType
 have q2 := PySem.F.called_set.canCreate
 have q3 := PySem.F.typeCall_set_1 (.ref tu)
 repeat (any_goals (first | assumption | wp_step))
 generalize hnew : s.heap.objs.size = new at *
 refine codeAny_mono (code_set_new_1 (.ref tu) (E := Ex) (Q₁ := fun u s1 => ∃ led : Bool, u = .ref new ∧ s1 = { s with heap := s.heap.push { cls := .type "set", dict := none, data := .set #[] 0 (.fresh 0 0 led) } }) fun led => ⟨led, by rw [hnew], rfl⟩) fun res s1 hres => ?_
 match res, hres with
 | .error _, hres => exact hres
 | .ok (.ret u), hres =>
  obtain ⟨led, rfl, rfl⟩ := hres
  have at1 : (s.heap.push ({ cls := .type "set", dict := none, data := .set #[] 0 (.fresh 0 0 led) } : Obj)).get? new = some ({ cls := .type "set", dict := none, data := .set #[] 0 (.fresh 0 0 led) } : Obj) := by
   rw [← hnew]
   exact Heap.get?_push_size _ rfl
  have isS : Shared.TypeIs { s with heap := s.heap.push ({ cls := .type "set", dict := none, data := .set #[] 0 (.fresh 0 0 led) } : Obj) } (.ref new) "set" := ⟨_, at1, rfl⟩
  have q4 := PySem.F.called_set.init.lookup
  have q5 := PySem.F.called_set.init.bind (.ref new)
  repeat (any_goals (first | assumption | wp_step))
  refine codeAny_mono (codeAny_call_builtin (R := wants (fun r s2 => r = .none ∧ ∃ h2 tk, s2 = { s with heap := h2, toks := tk } ∧ h2.SetOf (PySem.strKind pr wl) new (inTake xs its.size) its.size ∧ (∀ b o, b < new → s.heap.get? b = some o → h2.get? b = some o)) Ex)
   PySem.F.called_set.init.plain PySem.F.entry_set_init (check_set_init_1 isS ?_)) fun r2 s2 hr2 => ?_
  ·obtain ⟨⟨oc, od, odat, osl⟩, at0, hcl, nl, hdl⟩ := tup
   simp only at hcl hdl
   subst hcl hdl
   have at2 : (s.heap.push ({ cls := .type "set", dict := none, data := .set #[] 0 (.fresh 0 0 led) } : Obj)).get? tu = some { cls := .type "tuple", dict := od, data := .seq its nl, slots := osl } := Heap.get?_push_of_some _ at0
   have q6 := PySem.F.sub_tuple_set
   have q7 := PySem.F.sub_tuple_frozenset
   have q8 : (Value.type "tuple" == Value.type "dict") = false := by decide
   have tup2 : (s.heap.push ({ cls := .type "set", dict := none, data := .set #[] 0 (.fresh 0 0 led) } : Obj)).IsTuple tu its := ⟨_, at2, rfl, nl, rfl⟩
   unfold Builtin.«set.__init__» noKeywords Builtin.Frozenset.updateFrom
   generalize hPI : pyIter = PI
   wp_walk
   subst hPI
   refine wpAny_pyIter_tuple tup2 ?_
   refine wpAny_bind (wpAny_runValue ?_)
   have below : tu < new := by rw [← hnew]; exact Heap.lt_size at0
   have hsize : (s.heap.push ({ cls := .type "set", dict := none, data := .set #[] 0 (.fresh 0 0 led) } : Obj)).objs.size = new + 1 := by rw [Heap.size_push, hnew]
   have apart : tu ≠ (s.heap.push ({ cls := .type "set", dict := none, data := .set #[] 0 (.fresh 0 0 led) } : Obj)).objs.size := by rw [hsize]; exact Nat.ne_of_lt (Nat.lt_succ_of_lt below)
   have notIn : new ∉ [(s.heap.push ({ cls := .type "set", dict := none, data := .set #[] 0 (.fresh 0 0 led) } : Obj)).objs.size, tu] := by
    rw [hsize]
    simp only [List.mem_cons, List.not_mem_nil, or_false, not_or]
    exact ⟨Nat.ne_of_lt (Nat.lt_succ_self _), Nat.ne_of_gt below⟩
   have lenx : xs.length = its.size := by rw [← StrsAre.len_eq txt, Array.length_toList]
   have vals : ∀ (i : Nat) (v : Value), its[i]? = some v → ∃ t, v = .str (xs.getD i Str.empty) t := fun i v e => SS.strs_at txt i v (by rw [Array.getElem?_toList]; exact e)
   have calm3 : Ar.in1.in1.in1.handled = none := by simp [calm]
   refine loopTx ((Walks.tuple calm3 _ tu apart its).toS) new notIn xs lenx nd (by omega) vals its.size 0 _ (by omega) ⟨⟨_, Heap.get?_push_size _ rfl, rfl, rfl⟩, tup2.push _⟩ ?start ?fin
   case start =>
    have at3 : ((s.heap.push ({ cls := .type "set", dict := none, data := .set #[] 0 (.fresh 0 0 led) } : Obj)).push { cls := .type "tuple_iterator", data := .fields #[.ref tu, .int 0 0] }).get? new = some ({ cls := .type "set", dict := none, data := .set #[] 0 (.fresh 0 0 led) } : Obj) := Heap.get?_push_of_some _ at1
    exact SetOf_congr ((setObjOf_fresh (knd := PySem.strKind pr wl) led).setOf at3 (by unfold scanBound; omega)) (fun _ => rfl) rfl
   case fin =>
    intro s5 mv st5
    obtain ⟨h5, g5, d5, tk5, os5⟩ := s5
    obtain rfl : g5 = s.gens := mv.gens
    obtain rfl : d5 = s.drawn := mv.drawn
    obtain rfl : os5 = s.os := mv.os
    show wpAny _ _ _ _ _ _
    refine wpAny_pure ?_
    show wpAny _ _ (ret Value.none) _ _ _
    refine wpAny_pure ⟨rfl, h5, tk5, rfl, st5, fun b o hb eo => mv.heap b o ?_ (Heap.get?_push_of_some _ (Heap.get?_push_of_some _ eo))⟩
    rw [hsize]
    simp only [List.mem_cons, List.not_mem_nil, or_false, not_or]
    exact ⟨Nat.ne_of_lt hb, Nat.ne_of_lt (Nat.lt_succ_of_lt hb)⟩
  ·match r2, hr2 with
   | .error _, hr2 => exact hr2
   | .ok (.ret u), hr2 =>
    obtain ⟨rfl, h2, tk, rfl, st2, kept⟩ := hr2
    repeat (any_goals (first | assumption | wp_step))
    exact go _ _ st2 kept
   | .ok .next, hr2 => exact hr2.elim
   | .ok .brk, hr2 => exact hr2.elim
   | .ok .cont, hr2 => exact hr2.elim
 | .ok .next, hres => exact hres.elim
 | .ok .brk, hres => exact hres.elim
 | .ok .cont, hres => exact hres.elim
end
end NW
namespace NW
open PySem PySem.Spec PyProof.Rows L2
open TL (tl)
section
variable {X : Cx} {pins : List (Addr × Obj)} {σ : L2.St} {H : Hp} {s : Shared}
theorem op_in_any (hu : X.A.units + 1 < cLine) : OpR X (compareOp .In) (fun x y H Q => rIn X.K false x y H Q ∨ ∃ a o, y = .ref a ∧ DGet H a x o ∧ Q (.bl o.isSome) H) := by
 intro pins s σ H x y v u Q I rx ry h
 rcases h with h | ⟨a, o, rfl, g, q⟩
 ·exact op_in_seq pins s σ H x y v u Q I rx ry h
 ·obtain rfl : u = Value.ref a := ry
  exact d_in hu I g rx fun _ I3 => ⟨.bl o.isSome, H, I3, rfl, q⟩
theorem call_lenR : CallR X (.builtin "len") (fun xs H Q => ∃ a kvs, xs = [V.ref a] ∧ Rd H a (.dK kvs) ∧ Q (.int kvs.length) H) := by
 intro pins s σ H xs us Q I r h
 obtain ⟨a, kvs, rfl, ha, q⟩ := h
 rw [Vals.ref1 r]
 exact d_len I ha fun t _ I2 => ⟨.int kvs.length, H, I2, ⟨t, rfl⟩, q⟩
def tLenSetN (K : PySem.W.Frag) (ta : TE) : TE := fun σ H Q => ta σ H fun x H1 => ∃ l, ∃ xs : List Str, x = .ref l ∧ SqT K H1 l (xs.map V.str) ∧ xs.Nodup ∧ xs.length ≤ 1000 ∧ Q (.int xs.length) H1
theorem pe_lenSetN {a : Expr} {ta : TE} {p p2 q pos : Pos} (hc : X.calm = true) (hg : Gl X "len") (hm : X.mg "len" = none) (hg2 : Gl X "set") (hm2 : X.mg "set" = none) (ha : PE X a ta)
  (na : starEach [a] X.env = (false, eval a X.env) :: starEach [] X.env := by rfl) : PE X (.Call (.Name "len" p) [.Call (.Name "set" p2) [a] [] q] [] pos) (tLenSetN X.K ta) := by
 refine ⟨fun pins s σ H Q I h => ?_⟩
 refine Call_ (ld_blt I hg hm boot_len ?_)
 refine PyProof.Rows.callWith_builtin1 (args_cons (Call_ (ld_blt I hg2 hm2 boot_set (PyProof.Rows.callWith_type1 (args_cons (thn (ha.run pins s σ H _ I h) fun v s1 ⟨x, H1, I1, r1, tu, xs, ex, ht, nd, few, q1⟩ => args_nil ?_) na) na rfl))) rfl) rfl rfl
 subst ex
 cases r1
 obtain ⟨its, rv, pl, _⟩ := I1.tuple ht
 refine setTx (I1.ok.hd hc) pl (by simpa using strsAre_of rv) nd few fun h2 tk st kept => ?_
 refine args_nil ?_
 have en : its.toArray.size = xs.length := by rw [List.size_toArray, ← rv.length, List.length_map]
 rw [en] at st
 obtain ⟨o, es, ep, t, ho, hex, hd, _, _, _, hf, hn⟩ := st
 have I2 : Inv X pins σ H1 { s1 with heap := h2, toks := tk } := I1.kept fun b o e => kept b o (Heap.lt_size e) e
 exact call_len_set ho hex hd hf (by rw [hn]; omega) ⟨.int xs.length, H1, I2.tok _, ⟨_, by rw [hn]⟩, q1⟩
end
inductive Shp where
 | base (z : Str)
 | sure (s : Shp)
 | list (s : Shp)
 deriving DecidableEq
def ShAt (H : Hp) : V → Shp → Prop
 | v, .base z => v = .str z
 | v, .sure s => ∃ a u, v = .ref a ∧ H a = some (.tup [.str "sure", u]) ∧ ShAt H u s
 | v, .list s => ∃ a u, v = .ref a ∧ H a = some (.tup [.str "list", u]) ∧ ShAt H u s
theorem ShAt.gr {b : Addr} {H H' : Hp} {xs : List V} (hb : H b = some (.lst xs) ∨ ∃ kvs, H b = some (.dK kvs)) (x : Gr b H H') : ∀ {s : Shp} {v : V}, ShAt H v s → ShAt H' v s := by
 have ne : ∀ {a : Addr} {ys : List V}, H a = some (.tup ys) → a ≠ b := by
  intro a ys e
  rcases hb with h | ⟨_, h⟩
  ·exact ne_of e h (by intro z; cases z)
  ·exact ne_of e h (by intro z; cases z)
 intro s
 induction s with
 | base z => intro v h; exact h
 | sure s ih =>
  rintro v ⟨a, u, e, ha, hu⟩
  exact ⟨a, u, e, x _ _ (ne ha) ha, ih hu⟩
 | list s ih =>
  rintro v ⟨a, u, e, ha, hu⟩
  exact ⟨a, u, e, x _ _ (ne ha) ha, ih hu⟩
theorem ShAt.same {H H' : Hp} (x : Same H H') : ∀ {s : Shp} {v : V}, ShAt H v s → ShAt H' v s := by
 intro s
 induction s with
 | base z => intro v h; exact h
 | sure s ih =>
  rintro v ⟨a, u, e, ha, hu⟩
  exact ⟨a, u, e, x _ _ ha, ih hu⟩
 | list s ih =>
  rintro v ⟨a, u, e, ha, hu⟩
  exact ⟨a, u, e, x _ _ ha, ih hu⟩
def okS (bases : List Str) : Nat → Bool → Shp → Prop
 | _, _, .base z => z ∈ bases
 | 0, _, .sure _ => False
 | 0, _, .list _ => False
 | n + 1, o, .sure s => o = false ∧ okS bases n true s
 | n + 1, _, .list s => okS bases n false s
abbrev Fld := Str × V × Shp
def fkv (fs : List Fld) : List (Key × V) := fs.map fun f => ((Sum.inr f.1 : Key), f.2.1)
structure FldAt (H : Hp) (d : Addr) (fs : List Fld) : Prop where
 at_ : H d = some (.dK (fkv fs))
 sh : ∀ f ∈ fs, ShAt H f.2.1 f.2.2
structure KRow where
 nm : Str
 t : Addr
 fa : Addr
 da : Addr
 fcs : List Str
 fds : List Fld
structure KRow.At (H : Hp) (k : KRow) : Prop where
 t : H k.t = some (.tup [.ref k.fa, .ref k.da])
 f : H k.fa = some (.tup (k.fcs.map V.str))
 d : FldAt H k.da k.fds
structure FRow where
 nm : Str
 da : Addr
 fds : List Fld
structure URow where
 nm : Str
 t : Addr
 ms : List Str
def kkv (ks : List KRow) : List (Key × V) := ks.map fun k => ((Sum.inr k.nm : Key), V.ref k.t)
def fkvs (fs : List FRow) : List (Key × V) := fs.map fun k => ((Sum.inr k.nm : Key), V.ref k.da)
def ukv (us : List URow) : List (Key × V) := us.map fun k => ((Sum.inr k.nm : Key), V.ref k.t)
structure SchAt (H : Hp) (kt ft ut : Addr) (ks : List KRow) (fs : List FRow) (us : List URow) : Prop where
 kd : H kt = some (.dK (kkv ks))
 fd : H ft = some (.dK (fkvs fs))
 ud : H ut = some (.dK (ukv us))
 ka : ∀ k ∈ ks, k.At H
 fa : ∀ f ∈ fs, FldAt H f.da f.fds
 ua : ∀ u ∈ us, H u.t = some (.tup (u.ms.map V.str))
def Oth (H : Hp) (b : Addr) : Prop := ∃ o, H b = some o ∧ (∀ xs, o ≠ .tup xs) ∧ ∀ kvs, o ≠ .dK kvs
theorem Oth.lst {H : Hp} {b : Addr} {xs : List V} (h : H b = some (.lst xs)) : Oth H b := ⟨_, h, (by intro _ z; cases z), (by intro _ z; cases z)⟩
theorem Oth.ins {H : Hp} {b C dx : Addr} {fs : List (Str × V)} (h : H b = some (.ins C dx fs)) : Oth H b := ⟨_, h, (by intro _ z; cases z), (by intro _ z; cases z)⟩
theorem Oth.net {H : Hp} {a b : Addr} {xs : List V} (h : Oth H b) (e : H a = some (.tup xs)) : a ≠ b := by
 obtain ⟨o, ho, h1, _⟩ := h
 exact ne_of e ho fun z => h1 _ z.symm
theorem Oth.ned {H : Hp} {a b : Addr} {kvs : List (Key × V)} (h : Oth H b) (e : H a = some (.dK kvs)) : a ≠ b := by
 obtain ⟨o, ho, _, h1⟩ := h
 exact ne_of e ho fun z => h1 _ z.symm
theorem ShAt.grO {b : Addr} {H H' : Hp} (hb : Oth H b) (x : Gr b H H') : ∀ {s : Shp} {v : V}, ShAt H v s → ShAt H' v s := by
 intro s
 induction s with
 | base z => intro v h; exact h
 | sure s ih =>
  rintro v ⟨a, u, e, ha, hu⟩
  exact ⟨a, u, e, x _ _ (hb.net ha) ha, ih hu⟩
 | list s ih =>
  rintro v ⟨a, u, e, ha, hu⟩
  exact ⟨a, u, e, x _ _ (hb.net ha) ha, ih hu⟩
theorem FldAt.gr {b : Addr} {H H' : Hp} {d : Addr} {fs : List Fld} (hb : Oth H b) (x : Gr b H H') (h : FldAt H d fs) : FldAt H' d fs :=
 ⟨x _ _ (hb.ned h.at_) h.at_, fun f m => (h.sh f m).grO hb x⟩
theorem KRow.At.gr {b : Addr} {H H' : Hp} {k : KRow} (hb : Oth H b) (x : Gr b H H') (h : k.At H) : k.At H' :=
 ⟨x _ _ (hb.net h.t) h.t, x _ _ (hb.net h.f) h.f, h.d.gr hb x⟩
theorem SchAt.gr {b : Addr} {H H' : Hp} {kt ft ut : Addr} {ks : List KRow} {fs : List FRow} {us : List URow} (hb : Oth H b) (x : Gr b H H') (h : SchAt H kt ft ut ks fs us) : SchAt H' kt ft ut ks fs us :=
 ⟨x _ _ (hb.ned h.kd) h.kd, x _ _ (hb.ned h.fd) h.fd, x _ _ (hb.ned h.ud) h.ud, fun k m => (h.ka k m).gr hb x, fun f m => (h.fa f m).gr hb x,
  fun u m => x _ _ (hb.net (h.ua u m)) (h.ua u m)⟩
theorem FldAt.same {H H' : Hp} {d : Addr} {fs : List Fld} (x : Same H H') (h : FldAt H d fs) : FldAt H' d fs := ⟨x _ _ h.at_, fun f m => (h.sh f m).same x⟩
theorem KRow.At.same {H H' : Hp} {k : KRow} (x : Same H H') (h : k.At H) : k.At H' := ⟨x _ _ h.t, x _ _ h.f, h.d.same x⟩
theorem SchAt.same {H H' : Hp} {kt ft ut : Addr} {ks : List KRow} {fs : List FRow} {us : List URow} (x : Same H H') (h : SchAt H kt ft ut ks fs us) : SchAt H' kt ft ut ks fs us :=
 ⟨x _ _ h.kd, x _ _ h.fd, x _ _ h.ud, fun k m => (h.ka k m).same x, fun f m => (h.fa f m).same x, fun u m => x _ _ (h.ua u m)⟩
structure FdsOk (bases : List Str) (fds : List Fld) (most : Nat) : Prop where
 n0 : 1 ≤ fds.length
 n1 : fds.length ≤ most
 nd : (fds.map (·.1)).Nodup
 nm : ∀ f ∈ fds, IsName f.1
 sh : ∀ f ∈ fds, okS bases 4 false f.2.2
 tx : ∀ z ∈ bases, PyData.strOk z = true
def bsOf (ks : List KRow) (fs : List FRow) (us : List URow) : List Str := [("number" : Str), ("text" : Str)] ++ (ks.map (·.nm) ++ (fs.map (·.nm) ++ us.map (·.nm)))
structure SchOk (ks : List KRow) (fs : List FRow) (us : List URow) (root : Str) : Prop where
 k0 : 1 ≤ ks.length
 k1 : ks.length ≤ 6
 f1 : fs.length ≤ 3
 u1 : us.length ≤ 3
 nd : (bsOf ks fs us).Nodup
 nk : ∀ k ∈ ks, IsName k.nm
 nf : ∀ k ∈ fs, IsName k.nm
 nu : ∀ k ∈ us, IsName k.nm
 kf : ∀ k ∈ ks, k.fcs.Nodup ∧ (∀ z ∈ k.fcs, z ∈ fs.map (·.nm)) ∧ k.fcs.length ≤ 3
 kd : ∀ k ∈ ks, FdsOk (bsOf ks fs us) k.fds 5
 fd : ∀ f ∈ fs, FdsOk (bsOf ks fs us) f.fds 4
 fk : ∀ f ∈ fs, ∃ k ∈ ks, f.nm ∈ k.fcs
 ff : ∀ f ∈ fs, ∀ k ∈ ks, f.nm ∈ k.fcs → ∀ x ∈ f.fds, ∃ y ∈ k.fds, y.1 = x.1 ∧ y.2.2 = x.2.2
 ud : ∀ u ∈ us, u.ms.Nodup ∧ 1 ≤ u.ms.length ∧ u.ms.length ≤ 4 ∧ ∀ z ∈ u.ms, z ∈ ks.map (·.nm)
 rt : root ∈ ks.map (·.nm)
theorem valV_nd {κ : Type} [DecidableEq κ] : ∀ {kvs : List (κ × V)} {k : κ} {v : V}, (kvs.map (·.1)).Nodup → (k, v) ∈ kvs → valV kvs k = some v
 | [], _, _, _, m => by cases m
 | p :: r, k, v, nd, m => by
  have nd' : p.1 ∉ r.map (·.1) ∧ (r.map (·.1)).Nodup := List.nodup_cons.mp nd
  by_cases e : p.1 = k
  ·have ev : (k, v) = p := by
    rcases List.mem_cons.mp m with m | m
    ·exact m
    ·exact absurd (e ▸ List.mem_map.mpr ⟨_, m, rfl⟩) nd'.1
   unfold valV
   rw [List.find?_cons_of_pos (by simpa using e), ← ev]
   rfl
  ·rcases List.mem_cons.mp m with m | m
   ·exact absurd (by rw [← m]) e
   ·unfold valV
    rw [List.find?_cons_of_neg (by simpa using e)]
    exact valV_nd nd'.2 m
theorem valV_map {α : Type} {l : List α} {f : α → Str} {g : α → V} (nd : (l.map f).Nodup) {a : α} (m : a ∈ l) : valV (l.map fun a => ((Sum.inr (f a) : Key), g a)) (Sum.inr (f a)) = some (g a) := by
 refine valV_nd ?_ (List.mem_map.mpr ⟨a, m, rfl⟩)
 rw [List.map_map]
 have : (l.map f).map (Sum.inr : Str → Key) = l.map (Prod.fst ∘ fun a => ((Sum.inr (f a) : Key), g a)) := by rw [List.map_map]; rfl
 rw [← this]
 exact (List.pairwise_map.mpr (nd.imp fun h e => h (Sum.inr.inj e)))
theorem valV_out {α : Type} {l : List α} {f : α → Str} {g : α → V} {z : Str} (m : z ∉ l.map f) : valV (l.map fun a => ((Sum.inr (f a) : Key), g a)) (Sum.inr z) = none := by
 unfold valV
 rw [List.find?_eq_none.mpr]
 ·rfl
 ·intro x hx
  obtain ⟨a, ha, rfl⟩ := List.mem_map.mp hx
  simp only [decide_eq_true_eq]
  intro e
  exact m (List.mem_map.mpr ⟨a, ha, Sum.inr.inj e⟩)
theorem keys_map {α : Type} (l : List α) (f : α → Str) (g : α → V) : (l.map fun a => ((Sum.inr (f a) : Key), g a)).map (·.1) = (l.map f).map Sum.inr := by
 rw [List.map_map, List.map_map]
 rfl
theorem inV_strs {z : Str} {l : List Str} : inV (.str z) (l.map V.str) = decide (z ∈ l) := by
 unfold inV
 rw [List.any_map, Bool.eq_iff_iff, List.any_eq_true, decide_eq_true_eq]
 constructor
 ·rintro ⟨x, hx, e⟩
  have : x = z := by simpa [eqV] using e
  exact this ▸ hx
 ·intro h
  exact ⟨z, h, by simp [eqV]⟩
theorem flat_map (l : List Str) : (l.map V.str).all flatV = true := by
 rw [List.all_map]
 exact List.all_eq_true.mpr fun _ _ => rfl
end NW
namespace NW
open PySem PySem.Spec PyProof.Rows L2
section
variable {X : Cx} (K : PySem.W.Frag)
theorem op_notIn_seqK (h : X.K = K := by rfl) : OpR X (compareOp .NotIn) (rIn K true) := h ▸ op_notIn_seq
theorem op_in_seqK (h : X.K = K := by rfl) : OpR X (compareOp .In) (rIn K false) := h ▸ op_in_seq
theorem ix_listK (h : X.K = K := by rfl) : IxR X (rIxL K) := h ▸ ix_list
theorem ix_tupK (h : X.K = K := by rfl) : IxR X (rIxT K) := h ▸ ix_tup
theorem op_eqDK (hu : X.A.units + 64 < cLine) (h : X.K = K := by rfl) : OpR X (compareOp .Eq) (rEqD K) := h ▸ op_eqD hu
end
end NW
namespace NW
open PySem PySem.Spec PyProof.Rows L2
open TL (tl)
theorem IsName.tx {z : Str} (h : IsName z) : PyData.strOk z = true := by
 unfold PyData.strOk
 rw [Array.all_eq_true']
 intro c hc
 have := h.low c (Array.mem_toList_iff.mpr hc)
 exact decide_eq_true (by omega)
end NW
namespace NW
open PySem PySem.Spec PyProof.Rows L2
open TL (tl)
structure Cst (K : PySem.W.Frag) (mg : Str → Option Value) : Prop where
 LETTERS : ∃ t, mg "LETTERS" = some (.str LET t)
 LONGEST : ∃ t, mg "LONGEST" = some (.int 8 t)
 LEAVES : ∃ a, mg "LEAVES" = some (.ref a) ∧ ∀ H, SqT K H a [.str "number", .str "text"]
 WRAPPERS : ∃ a, mg "WRAPPERS" = some (.ref a) ∧ ∀ H, SqT K H a [.str "list", .str "sure"]
 MOST_KINDS : ∃ t, mg "MOST_KINDS" = some (.int 6 t)
 MOST_FACES : ∃ t, mg "MOST_FACES" = some (.int 3 t)
 MOST_UNIONS : ∃ t, mg "MOST_UNIONS" = some (.int 3 t)
 MOST_KIND_FIELDS : ∃ t, mg "MOST_KIND_FIELDS" = some (.int 5 t)
 MOST_FACE_FIELDS : ∃ t, mg "MOST_FACE_FIELDS" = some (.int 4 t)
 MOST_UNION_KINDS : ∃ t, mg "MOST_UNION_KINDS" = some (.int 4 t)
abbrev s_is_name : Stmt := topS 11
abbrev N_is_name : List Str := ["word", "letter"]
theorem sc_is_name : FnScope N_is_name ["word"] (defScope s_is_name) := ⟨rfl, rfl, rfl, by decide +kernel, rfl, by decide +kernel, by decide +kernel⟩
abbrev s_is_key : Stmt := topS 12
abbrev N_is_key : List Str := ["name", "table"]
theorem sc_is_key : FnScope N_is_key ["name", "table"] (defScope s_is_key) := ⟨rfl, rfl, rfl, by decide +kernel, rfl, by decide +kernel, by decide +kernel⟩
section
variable {P : Program} {w : World} {K : PySem.W.Frag} {mg : Str → Option Value} {base : Heap}
def spIsName : Sp := fun vs H Q _ => ∃ z : Str, vs = [.str z] ∧ IsName z ∧ ∀ H', Same H H' → Q (.bl true) H'
theorem same_new {H : Hp} {p : Addr} {o : HO} (h : H p = none) : Same H (upd H p o) := fun b x e => by
 rw [upd_ne (ne_of_none e h)]
 exact e
theorem same_upd {H H1 : Hp} {p : Addr} {o : HO} (x : Same H H1) (h : H p = none) : Same H (upd H1 p o) := fun b u e => by
 rw [upd_ne (ne_of_none e h)]
 exact x b u e
theorem all_true (n : Nat) : (List.replicate n true).all id = true := by
 rw [List.all_replicate]
 cases n <;> simp
theorem rep_succ {n : Nat} : (List.replicate n true).map V.bl ++ [V.bl true] = (List.replicate (n + 1) true).map V.bl := by
 rw [List.replicate_succ', List.map_append]
 rfl
theorem ok_is_name {f : Addr} {fd : FuncData} (D : Df K mg "is_name" s_is_name f fd ["word"]) (T : Nms mg) (C : Cst K mg) : FnOk P w K mg base CX0 1 f fd ["word"] spIsName := by
 obtain ⟨t1, g_LETTERS⟩ := C.LETTERS
 obtain ⟨t2, g_LONGEST⟩ := C.LONGEST
 refine D.F.ok sc_is_name (fun vs H Q E h => ?_) (fun cdv A outer s H vs Q E hr h => ?_)
 ·obtain ⟨z, rfl, _⟩ := h
  rfl
 ·obtain ⟨z, rfl, hz, q⟩ := h
  refine ⟨_, (pss_one (ps_ret (pe_and (pe_callB call_isi (by rfl) T.n_isinstance (by decide +kernel) (pa_cons (pv 0) (pa_cons (pe_bltn (v := .ty "str") (by rfl) T.n_str (by decide +kernel) rfl) pa_nil))) (pe_and (pe_chain op_le op_le pe_int (pe_callB call_len_str (by rfl) T.n_len PySem.boot_len (pa_cons (pv 0) pa_nil)) (pe_glob (v := .int 8) (by rfl) g_LONGEST ⟨_, rfl⟩)) (pe_one (pe_callB (cr_all rfl) (by rfl) T.n_all (by decide +kernel) (pa_cons (pe_lc (own := [("letter", 1)]) (g := (gName 1)) (tt := tYes) rfl sc_is_name.nd (pi_str (pv 0)) (blkOk_by (own := [("letter", 1)]) (N := N_is_name) (sc := defScope s_is_name) (by decide +kernel)) (fun _ _ _ _ _ => (pg_name (i := 1) sc_is_name.nd rfl (.inl rfl))) (fun _ _ _ _ _ => pts_nil) (fun _ _ _ _ _ => (pe_cmpR op_in_sign (pv 1) (pe_glob (v := .str LET) (by rfl) g_LETTERS ⟨_, rfl⟩) (by rfl)))) pa_nil))))))), ?_⟩
  refine ⟨.str z, rfl, _, _, _, _, true, rfl, .ty "str", .base (.str z), kit_ty (by decide +kernel), true, rfl, iteT ?_⟩
  have hs : z.length ≤ sizeLine := Nat.le_trans hz.len8 (by decide)
  have l1 : decide ((1 : Int) ≤ (z.length : Int)) = true := decide_eq_true (by have := hz.len1; omega)
  have l2 : decide ((z.length : Int) ≤ 8) = true := decide_eq_true (by have := hz.len8; omega)
  refine ⟨.str z, rfl, z, rfl, hs, _, _, rfl, rfl, true, blT (by have := hz.len1; omega), iteT ⟨_, _, rfl, rfl, true, blT (by have := hz.len8; omega), iteT ⟨.str z, rfl, z, rfl, fun Da nD => ?_⟩⟩⟩
  refine lc_it walk_str (fun i H' => H' = upd H Da (.lst ((List.replicate i true).map V.bl))) rfl (fun _ _ _ _ => trivial) ?_ ?_
  ·rintro i x H3 H4 hi rfl ⟨rfl, c, hc, rfl⟩
   have hcm : c ∈ tl z := List.mem_of_getElem? (by rw [Array.getElem?_toList]; exact hc)
   have hl := hz.low c hcm
   have hm : c ∈ LET.cps.toList := by
    have e := let_at (k := c - 97) (by omega)
    rw [show 97 + (c - 97) = c by omega] at e
    exact List.mem_of_getElem? e
   refine ⟨rfl, lcT ⟨_, rfl, c, LET, rfl, rfl, _, upd_same, ?_, ?_⟩⟩
   ·rw [List.length_map, List.length_replicate]
    have h1 := hz.len8
    exact Nat.lt_of_le_of_lt (show i ≤ 1000 by have : z.length = z.cps.size := rfl; omega) (by decide)
   ·rw [upd_upd, decide_eq_true hm, rep_succ]
  ·rintro H3 rfl
   refine ⟨Da, _, rfl, SqL.of upd_same, ?_⟩
   rw [all_true]
   exact q _ (same_new nD)
def spIsKey (K : PySem.W.Frag) : Sp := fun vs H Q _ => ∃ (x : V) (a : Addr), vs = [x, .ref a] ∧ ((∃ z : Str, x = .str z ∧ ((∃ l : List Str, (SqL K H a (l.map V.str) ∨ SqT K H a (l.map V.str)) ∧ Q (.bl (decide (z ∈ l))) H) ∨ (∃ kvs, Rd H a (.dK kvs) ∧ Q (.bl (valV kvs (Sum.inr z)).isSome) H))) ∨
 (∃ t, TyX K H x t ∧ PySem.W.kitOne K t (.type "str") = some false ∧ Q (.bl false) H))
theorem ok_is_key {f : Addr} {fd : FuncData} (D : Df K mg "is_key" s_is_key f fd ["name", "table"]) (T : Nms mg) : FnOk P w K mg base CX0 1 f fd ["name", "table"] (spIsKey K) := by
 refine D.F.ok sc_is_key (fun vs H Q E h => ?_) (fun cdv A outer s H vs Q E hr h => ?_)
 ·obtain ⟨z, a, rfl, _⟩ := h
  rfl
 ·obtain ⟨x, a, rfl, h⟩ := h
  have hu := hu_of hr
  refine ⟨_, (pss_one (ps_ret (pe_and (pe_callB call_isi (by rfl) T.n_isinstance (by decide +kernel) (pa_cons (pv 0) (pa_cons (pe_bltn (v := .ty "str") (by rfl) T.n_str (by decide +kernel) rfl) pa_nil))) (pe_one (pe_cmpR (op_in_any hu) (pv 0) (pv 1) (by rfl)))))), ?_⟩
  rcases h with ⟨z, rfl, h⟩ | ⟨t, ht, hk, q⟩
  ·refine ⟨.str z, rfl, _, _, _, _, true, rfl, .ty "str", .base (.str z), kit_ty (by decide +kernel), true, rfl, iteT ?_⟩
   rcases h with ⟨l, hl, q⟩ | ⟨kvs, hk, q⟩
   ·refine ⟨.str z, rfl, .ref a, rfl, .inl ⟨a, _, rfl, hl, rfl, flat_map l, ?_⟩⟩
    rw [inV_strs]
    exact q
   ·exact ⟨.str z, rfl, .ref a, rfl, .inr ⟨a, _, rfl, .inl ⟨kvs, .inr z, hk, rfl, rfl⟩, q⟩⟩
  ·exact ⟨x, rfl, _, _, _, _, false, rfl, .ty "str", ht, hk, false, rfl, iteF q⟩
end
end NW
namespace NW
open PySem PySem.Spec PyProof.Rows L2
theorem same_unlock {H H' : Hp} {d : Addr} {u : HO} {od : Obj} (e : H d = some u) (x : Same (upd H d (.frz od u)) H') : Same H (upd H' d u) := fun b o h => by
 by_cases n : b = d
 ·subst n
  rw [e] at h
  cases h
  exact upd_same
 ·rw [upd_ne n]
  exact x b o (by rw [upd_ne n]; exact h)
theorem lc_all {J : It} {n j : Nat} {G : Hp → Prop} {Y : Nat → Hp → V → Hp → Prop} (w : Walk J n G Y) {te : TE} {vs : List Nat} {σ : L2.St} {H1 : Hp} {Da : Addr} {Qd : Hp → Prop} (Itm : Nat → V → Prop)
  (hY : ∀ i H x H', i < n → Y i H x H' → H' = H ∧ Itm i x) (hG : ∀ H, Same H1 H → G H) (nD : H1 Da = none) (hn : n ≤ 1000) (hw : ∀ x, wipe ((wipe σ vs).set j (some x)) vs = wipe σ vs)
  (hs : ∀ i x H (Q : VK), i < n → Itm i x → Same H1 H → (∀ H4, Same H H4 → Q (.bl true) H4) → te ((wipe σ vs).set j (some x)) H Q)
  (hd : ∀ H, Same H1 H → H Da = some (.lst ((List.replicate n true).map V.bl)) → Qd H) :
  ∃ W : Nat → Nat → Hp → Prop, (∃ m, W 0 m (upd H1 Da (.lst []))) ∧ ∀ i m H, W i m H →
   (J.stop i H ∧ Qd H) ∨ (J.go i H ∧ ∃ Nx : Hp → Prop, (∀ H', Nx H' → ∃ m', m' < m ∧ W (i + 1) m' H') ∧ ∀ x H', J.yld i H x H' → gName j x (wipe σ vs) H' fun σ2 H2 => wipe σ2 vs = wipe σ vs ∧ tYes σ2 H2 fun b H3 =>
    if b = true then te σ2 H3 fun y H4 => ∃ acc, H4 Da = some (.lst acc) ∧ acc.length < sizeLine ∧ Nx (upd H4 Da (.lst (acc ++ [y]))) else Nx H3) := by
 refine lc_it w (fun i H' => Same H1 H' ∧ H' Da = some (.lst ((List.replicate i true).map V.bl))) ⟨same_new nD, upd_same⟩ (fun i H _ p => hG H p.1) ?_ (fun H p => hd H p.1 p.2)
 rintro i x H H' hi ⟨sm, e⟩ y
 obtain ⟨rfl, it⟩ := hY i H x H' hi y
 refine ⟨hw x, lcT (hs i x _ _ hi it sm fun H4 s4 => ⟨_, s4 _ _ e, ?_, same_upd (sm.trans s4) nD, ?_⟩)⟩
 ·rw [List.length_map, List.length_replicate]
  exact Nat.lt_of_le_of_lt (show i ≤ 1000 by omega) (by decide)
 ·rw [upd_same, rep_succ]
end NW
namespace NW
open PySem PySem.Spec PyProof.Rows L2
open TL (tl)
abbrev s_is_table : Stmt := topS 29
abbrev N_is_table : List Str := ["table", "least", "most", "taken", "name"]
theorem sc_is_table : FnScope N_is_table ["table", "least", "most", "taken"] (defScope s_is_table) := ⟨rfl, rfl, rfl, by decide +kernel, rfl, by decide +kernel, by decide +kernel⟩
abbrev s_is_choice : Stmt := topS 30
abbrev N_is_choice : List Str := ["names", "table", "name"]
theorem sc_is_choice : FnScope N_is_choice ["names", "table"] (defScope s_is_choice) := ⟨rfl, rfl, rfl, by decide +kernel, rfl, by decide +kernel, by decide +kernel⟩
section
variable {P : Program} {w : World} {K : PySem.W.Frag} {mg : Str → Option Value} {base : Heap}
def spIsTable (K : PySem.W.Frag) : Sp := fun vs H Q _ => ∃ (t tk : Addr) (kvs : List (Key × V)) (ns ts : List Str) (lo hi : Int), vs = [.ref t, .int lo, .int hi, .ref tk] ∧ H t = some (.dK kvs) ∧ kvs.map (·.1) = ns.map Sum.inr ∧
 (∀ z ∈ ns, IsName z ∧ z ∉ ts) ∧ lo ≤ ns.length ∧ ns.length ≤ hi ∧ ns.length ≤ 1000 ∧ (SqL K H tk (ts.map V.str) ∨ SqT K H tk (ts.map V.str)) ∧ ∀ H', Same H H' → Q (.bl true) H'
theorem sq_lock {H : Hp} {t tk : Addr} {kvs : List (Key × V)} {od : Obj} {xs : List V} (e : H t = some (.dK kvs)) (h : SqL K H tk xs ∨ SqT K H tk xs) : SqL K (upd H t (.frz od (.dK kvs))) tk xs ∨ SqT K (upd H t (.frz od (.dK kvs))) tk xs := by
 have one : ∀ {u : HO}, (u = .lst xs ∨ u = .tup xs) → Rd H tk u → Rd (upd H t (.frz od (.dK kvs))) tk u := by
  intro u hu h
  have n : tk ≠ t := by
   rintro rfl
   rcases h with h | ⟨o, h⟩
   ·rw [e] at h
    rcases hu with rfl | rfl <;> cases h
   ·rw [e] at h
    cases h
  rcases h with h | ⟨o, h⟩
  ·exact .inl (by rw [upd_ne n]; exact h)
  ·exact .inr ⟨o, by rw [upd_ne n]; exact h⟩
 rcases h with (h | h) | (h | h)
 ·exact .inl (.inl (one (.inl rfl) h))
 ·exact .inl (.inr h)
 ·exact .inr (.inl (one (.inr rfl) h))
 ·exact .inr (.inr h)
theorem sq_same {H H' : Hp} {tk : Addr} {xs : List V} (x : Same H H') (h : SqL K H tk xs ∨ SqT K H tk xs) : SqL K H' tk xs ∨ SqT K H' tk xs := by
 rcases h with h | h
 ·exact .inl (x.seq h)
 ·rcases h with (h | ⟨o, h⟩) | h
  ·exact .inr (.inl (.inl (x _ _ h)))
  ·exact .inr (.inl (.inr ⟨o, x _ _ h⟩))
  ·exact .inr (.inr h)
theorem ok_is_table {f f1 : Addr} {fd fd1 : FuncData} (D : Df K mg "is_table" s_is_table f fd ["table", "least", "most", "taken"]) (D_is_name : Df K mg "is_name" s_is_name f1 fd1 ["word"]) (T : Nms mg) (C : Cst K mg) : FnOk P w K mg base CX0 2 f fd ["table", "least", "most", "taken"] (spIsTable K) := by
 have G_is_name : FnOk P w K mg base CX0 1 f1 fd1 ["word"] spIsName := ok_is_name D_is_name T C
 refine D.F.ok sc_is_table (fun vs H Q E h => ?_) (fun cdv A outer s H vs Q E hr h => ?_)
 ·obtain ⟨t, tk, kvs, ns, ts, lo, hi, rfl, _⟩ := h
  rfl
 ·obtain ⟨t, tk, kvs, ns, ts, lo, hi, rfl, ht, hk, hz, h0, h1, h3, htk, q⟩ := h
  have hl : kvs.length = ns.length := by
   have e := congrArg List.length hk
   rw [List.length_map, List.length_map] at e
   exact e
  refine ⟨_, (pss_cons (ps_if (PW.pt (pw_or (pt_not (pt_val (pe_callB call_isi (by rfl) T.n_isinstance (by decide +kernel) (pa_cons (pv 0) (pa_cons (pe_bltn (v := .ty "dict") (by rfl) T.n_dict (by decide +kernel) rfl) pa_nil))))) (pw_or1 (pt_not (pt_chain op_le op_le (pv 1) (pe_callB call_lenD (by rfl) T.n_len (by decide +kernel) (pa_cons (pv 0) pa_nil)) (pv 2))))))
    (pss_one (ps_ret pe_bl))
    pss_nil)
   (pss_one (ps_ret (pe_callB (cr_all rfl) (by rfl) T.n_all (by decide +kernel) (pa_cons (pe_lock (pe_lc (own := [("name", 4)]) (g := (gName 4)) (tt := tYes) rfl sc_is_table.nd (pi_keys (pv 0)) (blkOk_by (own := [("name", 4)]) (N := N_is_table) (sc := defScope s_is_table) (by decide +kernel)) (fun _ _ _ _ _ => (pg_name (i := 4) sc_is_table.nd rfl (.inl rfl))) (fun _ _ _ _ _ => pts_nil) (fun _ _ _ _ _ => (pe_and (pe_call G_is_name (hr.mono (by decide)) (by rfl) D_is_name.g D_is_name.F.kp D_is_name.b .nil pass0 (pa_cons (pv 4) pa_nil)) (pe_one (pe_cmpR (op_notIn_seqK K) (pv 4) (pv 3) (by rfl))))))) pa_nil))))), ?_⟩
  refine ⟨.ref t, rfl, _, _, _, _, true, rfl, .ty "dict", .base (.dK ht), kit_ty (by decide +kernel), true, rfl, iteF ?_⟩
  refine ⟨.int lo, rfl, .ref t, rfl, t, kvs, rfl, ht, _, _, rfl, rfl, true, blT (by omega), iteT ⟨.int hi, rfl, _, _, rfl, rfl, true, blT (by omega), iteF ?_⟩⟩
  refine ⟨t, .dK kvs, ht, trivial, fun od => ⟨.ref t, rfl, t, od, rfl, .inl ⟨kvs, upd_same, fun Da nD => ?_⟩⟩⟩
  refine lc_all walk_keys (fun i x => ∃ z, ns[i]? = some z ∧ x = .str z) ?_ (fun H sm => sm _ _ upd_same) nD (by omega) (fun _ => rfl) ?_ ?_
  ·rintro i H x H' hi ⟨rfl, k, v, e, rfl⟩
   have e2 : (kvs.map (·.1))[i]? = some k := by rw [List.getElem?_map, e]; rfl
   rw [hk, List.getElem?_map] at e2
   cases e3 : ns[i]? with
   | none => rw [e3] at e2; cases e2
   | some z =>
    rw [e3] at e2
    cases e2
    exact ⟨rfl, z, rfl, rfl⟩
  ·rintro i x H2 Q2 hi ⟨z, ez, rfl⟩ sm k
   have hz2 := hz z (List.mem_of_getElem? ez)
   refine ⟨.str z, rfl, z, rfl, hz2.1, fun H3 s3 => ⟨true, rfl, iteT ?_⟩⟩
   refine ⟨.str z, rfl, .ref tk, rfl, tk, _, rfl, sq_same s3 (sq_same sm (sq_lock ht htk)), rfl, flat_map ts, ?_⟩
   rw [inV_strs, decide_eq_false hz2.2]
   exact k _ s3
  ·intro H2 sm e2
   refine ⟨sm _ _ upd_same, Da, List.replicate kvs.length true, rfl, SqL.of ?_, ?_⟩
   ·rw [upd_ne (show Da ≠ t from fun z => by rw [z, upd_same] at nD; cases nD)]
    exact e2
   ·rw [all_true]
    exact q _ (same_unlock ht sm)
def spIsChoice (K : PySem.W.Frag) : Sp := fun vs H Q _ => ∃ (a t : Addr) (kvs : List (Key × V)) (zs : List Str), vs = [.ref a, .ref t] ∧ H a = some (.tup (zs.map V.str)) ∧ H t = some (.dK kvs) ∧
 zs.Nodup ∧ zs.length ≤ 1000 ∧ (∀ z ∈ zs, (valV kvs (Sum.inr z)).isSome = true) ∧ ∀ H', Same H H' → Q (.bl true) H'
theorem ok_is_choice {f f1 : Addr} {fd fd1 : FuncData} (D : Df K mg "is_choice" s_is_choice f fd ["names", "table"]) (D_is_key : Df K mg "is_key" s_is_key f1 fd1 ["name", "table"]) (T : Nms mg) : FnOk P w K mg base CX0 2 f fd ["names", "table"] (spIsChoice K) := by
 have G_is_key : FnOk P w K mg base CX0 1 f1 fd1 ["name", "table"] (spIsKey K) := ok_is_key D_is_key T
 refine D.F.ok sc_is_choice (fun vs H Q E h => ?_) (fun cdv A outer s H vs Q E hr h => ?_)
 ·obtain ⟨a, t, kvs, zs, rfl, _⟩ := h
  rfl
 ·obtain ⟨a, t, kvs, zs, rfl, ha, ht, hnd, hln, hin, q⟩ := h
  refine ⟨_, (pss_cons (ps_if (PW.pt (pw_or (pt_not (pt_val (pe_callB call_isi (by rfl) T.n_isinstance (by decide +kernel) (pa_cons (pv 0) (pa_cons (pe_bltn (v := .ty "tuple") (by rfl) T.n_tuple (by decide +kernel) rfl) pa_nil))))) (pw_or1 (pt_not (pt_val (pe_callB (cr_all rfl) (by rfl) T.n_all (by decide +kernel) (pa_cons (pe_lc (own := [("name", 2)]) (g := (gName 2)) (tt := tYes) rfl sc_is_choice.nd (pi_tup (pv 0)) (blkOk_by (own := [("name", 2)]) (N := N_is_choice) (sc := defScope s_is_choice) (by decide +kernel)) (fun _ _ _ _ _ => (pg_name (i := 2) sc_is_choice.nd rfl (.inl rfl))) (fun _ _ _ _ _ => pts_nil) (fun _ _ _ _ _ => (pe_call G_is_key (hr.mono (by decide)) (by rfl) D_is_key.g D_is_key.F.kp D_is_key.b .nil pass0 (pa_cons (pv 2) (pa_cons (pv 1) pa_nil))))) pa_nil)))))))
    (pss_one (ps_ret pe_bl))
    pss_nil)
   (pss_one (ps_ret (pe_cmpR op_eq (pe_lenSetN rfl (by rfl) T.n_len (by rfl) T.n_set (pv 0)) (pe_callB call_len_seq (by rfl) T.n_len (by decide +kernel) (pa_cons (pv 0) pa_nil)) (nomark _))))), ?_⟩
  refine ⟨.ref a, rfl, _, _, _, _, true, rfl, .ty "tuple", .base (.tup ha), kit_ty (by decide +kernel), true, rfl, iteF ?_⟩
  refine ⟨.ref a, rfl, a, rfl, ⟨_, .inl (.inl ha)⟩, fun Da nD => ?_⟩
  refine lc_all (walk_tup (xs := zs.map V.str)) (fun i x => ∃ z, zs[i]? = some z ∧ x = .str z) ?_ (fun H sm => .inl (.inl (sm _ _ ha))) nD (by rw [List.length_map]; exact hln) (fun _ => rfl) ?_ ?_
  ·rintro i H x H' hi ⟨rfl, e⟩
   rw [List.getElem?_map] at e
   cases e3 : zs[i]? with
   | none => rw [e3] at e; cases e
   | some z =>
    rw [e3] at e
    cases e
    exact ⟨rfl, z, rfl, rfl⟩
  ·rintro i x H2 Q2 hi ⟨z, ez, rfl⟩ sm k
   refine ⟨.str z, rfl, .ref t, rfl, .str z, t, rfl, .inl ⟨z, rfl, .inr ⟨kvs, .inl (sm _ _ ht), ?_⟩⟩⟩
   rw [hin z (List.mem_of_getElem? ez)]
   exact k _ (Same.refl _)
  ·intro H2 sm e2
   refine ⟨Da, List.replicate (zs.map V.str).length true, rfl, SqL.of e2, true, ?_, iteF ?_⟩
   ·rw [all_true]
   have ha2 : SqT K H2 a (zs.map V.str) := .inl (.inl (sm _ _ ha))
   refine ⟨.ref a, rfl, a, zs, rfl, ha2, hnd, hln, .ref a, rfl, a, _, rfl, .inr ha2, rfl, ?_⟩
   rw [List.length_map, decide_eq_true rfl]
   exact q _ sm
end
end NW
namespace NW
open PySem PySem.Spec PyProof.Rows L2
open TL (tl)
abbrev s_is_shape : Stmt := topS 18
abbrev N_is_shape : List Str := ["shape", "bases", "room", "outer"]
theorem sc_is_shape : FnScope N_is_shape ["shape", "bases", "room", "outer"] (defScope s_is_shape) := ⟨rfl, rfl, rfl, by decide +kernel, rfl, by decide +kernel, by decide +kernel⟩
structure DfS (K : PySem.W.Frag) (mg : Str → Option Value) (f : Addr) (fd : FuncData) : Prop where
 F : FunD K "is_shape" "is_shape" (defArgs s_is_shape) (defBody s_is_shape) (defScope s_is_shape) [.int 4, .str ""] [] f fd
 g : mg "is_shape" = some (.ref f)
 b4 : Binds K fd ["shape", "bases", "room", "outer"] []
 b2 : ∃ ds, Vals [V.int 4, V.str ""] ds ∧ Binds K fd ["shape", "bases", "room", "outer"] ds
section
variable {P : Program} {w : World} {K : PySem.W.Frag} {mg : Str → Option Value} {base : Heap}
def spIsShape (K : PySem.W.Frag) (n : Nat) : Sp := fun vs H Q _ => ∃ (v : V) (bs : Addr) (l : List Str) (o : Str) (s : Shp), vs = [v, .ref bs, .int n, .str o] ∧ ShAt H v s ∧ okS l n (decide (o = "sure")) s ∧ SqL K H bs (l.map V.str) ∧ Q (.bl true) H
theorem inW_sure : inV (.str "sure") [.str "list", .str "sure"] = true := by decide +kernel
theorem inW_list : inV (.str "list") [.str "list", .str "sure"] = true := by decide +kernel
theorem list_sure : ¬ (V.str "list" = V.str "sure") := by decide +kernel
theorem ok_is_shape {f : Addr} {fd : FuncData} (D : DfS K mg f fd) (T : Nms mg) (C : Cst K mg) : ∀ n : Nat, FnOk P w K mg base CX0 (n + 1) f fd ["shape", "bases", "room", "outer"] (spIsShape K n) := by
 obtain ⟨wa, g_W, hW⟩ := C.WRAPPERS
 intro n
 induction n with
 | zero =>
  refine D.F.ok sc_is_shape (fun vs H Q E h => ?_) (fun cdv A outer s H vs Q E hr h => ?_)
  ·obtain ⟨v, bs, l, o, s, rfl, _⟩ := h
   rfl
  ·obtain ⟨v, bs, l, o, s, rfl, hv, hok, hb, q⟩ := h
   cases s with
   | sure s => exact hok.elim
   | list s => exact hok.elim
   | base z =>
    obtain rfl := hv
    refine ⟨_, pss_cons (ps_if (pt_not (pt_val (pe_callB call_isi (by rfl) T.n_isinstance (by decide +kernel) (pa_cons (pv 0) (pa_cons (pe_bltn (v := .ty "tuple") (by rfl) T.n_tuple (by decide +kernel) rfl) pa_nil)))))
     (pss_one (ps_ret (pe_and (pe_callB call_isi (by rfl) T.n_isinstance (by decide +kernel) (pa_cons (pv 0) (pa_cons (pe_bltn (v := .ty "str") (by rfl) T.n_str (by decide +kernel) rfl) pa_nil))) (pe_one (pe_cmpR op_in_seq (pv 0) (pv 1) (by rfl))))))
     pss_nil) (pss_cons ps_never (pss_cons ps_never (pss_one ps_never))), ?_⟩
    refine ⟨.str z, rfl, _, _, _, _, false, rfl, .ty "tuple", .base (.str z), kit_ty (by decide +kernel), false, rfl, iteT ?_⟩
    refine ⟨.str z, rfl, _, _, _, _, true, rfl, .ty "str", .base (.str z), kit_ty (by decide +kernel), true, rfl, iteT ⟨.str z, rfl, .ref bs, rfl, bs, _, rfl, .inl hb, rfl, flat_map l, ?_⟩⟩
    rw [inV_strs, decide_eq_true (show z ∈ l from hok)]
    exact q
 | succ n ih =>
  have G_is_shape := ih
  refine D.F.ok sc_is_shape (fun vs H Q E h => ?_) (fun cdv A outer s H vs Q E hr h => ?_)
  ·obtain ⟨v, bs, l, o, s, rfl, _⟩ := h
   rfl
  ·obtain ⟨v, bs, l, o, s, rfl, hv, hok, hb, q⟩ := h
   refine ⟨_, (pss_cons (ps_if (pt_not (pt_val (pe_callB call_isi (by rfl) T.n_isinstance (by decide +kernel) (pa_cons (pv 0) (pa_cons (pe_bltn (v := .ty "tuple") (by rfl) T.n_tuple (by decide +kernel) rfl) pa_nil)))))
     (pss_one (ps_ret (pe_and (pe_callB call_isi (by rfl) T.n_isinstance (by decide +kernel) (pa_cons (pv 0) (pa_cons (pe_bltn (v := .ty "str") (by rfl) T.n_str (by decide +kernel) rfl) pa_nil))) (pe_one (pe_cmpR op_in_seq (pv 0) (pv 1) (by rfl))))))
     pss_nil)
    (pss_cons (ps_if (PW.pt (pw_or (pt_cmpR op_eq (pv 2) pe_int (nomark _)) (pw_or (pt_cmpR op_ne (pe_callB call_len_seq (by rfl) T.n_len (by decide +kernel) (pa_cons (pv 0) pa_nil)) pe_int (nomark _)) (pw_or1 (pt_cmpR op_notIn_seq (pe_ix ix_tup (pv 0) pe_int (fun _ _ => rfl)) (pe_glob (v := .ref wa) (by rfl) g_W rfl) (by rfl))))))
     (pss_one (ps_ret pe_bl))
     pss_nil)
    (pss_cons (ps_if (PW.pt (pw_and (pt_cmpR op_eq (pe_ix ix_tup (pv 0) pe_int (fun _ _ => rfl)) pe_str (nomark _)) (pw_and1 (pt_cmpR op_eq (pv 3) pe_str (nomark _)))))
     (pss_one (ps_ret pe_bl))
     pss_nil)
    (pss_one (ps_ret (pe_call G_is_shape (hr.mono (by omega)) (by rfl) D.g D.F.kp D.b4 .nil pass0 (pa_cons (pe_ix ix_tup (pv 0) pe_int (fun _ _ => rfl)) (pa_cons (pv 1) (pa_cons (pe_op op_sub (pv 2) pe_int) (pa_cons (pe_ix ix_tup (pv 0) pe_int (fun _ _ => rfl)) pa_nil)))))))))), ?_⟩
   have n0 : ¬ (V.int ((n + 1 : Nat) : Int) = V.int 0) := fun e => by
    have := V.int.inj e
    omega
   cases s with
   | base z =>
    obtain rfl := hv
    refine ⟨.str z, rfl, _, _, _, _, false, rfl, .ty "tuple", .base (.str z), kit_ty (by decide +kernel), false, rfl, iteT ?_⟩
    refine ⟨.str z, rfl, _, _, _, _, true, rfl, .ty "str", .base (.str z), kit_ty (by decide +kernel), true, rfl, iteT ⟨.str z, rfl, .ref bs, rfl, bs, _, rfl, .inl hb, rfl, flat_map l, ?_⟩⟩
    rw [inV_strs, decide_eq_true (show z ∈ l from hok)]
    exact q
   | sure s =>
    obtain ⟨a, u, rfl, ha, hu⟩ := hv
    obtain ⟨ho, hok⟩ := hok
    have no : ¬ (V.str o = V.str "sure") := fun e => of_decide_eq_false ho (V.str.inj e)
    have hT : SqT K H a [.str "sure", u] := .inl (.inl ha)
    refine ⟨.ref a, rfl, _, _, _, _, true, rfl, .ty "tuple", .base (.tup ha), kit_ty (by decide +kernel), true, rfl, iteF ?_⟩
    refine ⟨_, rfl, rfl, false, blF n0, iteF ⟨.ref a, rfl, a, _, rfl, .inr hT, rfl, false, blNF rfl, iteF ⟨.ref a, rfl, a, _, 0, _, rfl, rfl, hT, atI_nat (j := 0) rfl, wa, _, rfl, .inr (hW H), rfl, rfl, false, ?_, iteF ?_⟩⟩⟩
    ·show V.bl (!inV (.str "sure") [.str "list", .str "sure"]) = V.bl false
     rw [inW_sure]
     rfl
    refine ⟨.ref a, rfl, a, _, 0, _, rfl, rfl, hT, atI_nat (j := 0) rfl, rfl, true, blT rfl, iteT ⟨.str o, rfl, rfl, false, blF no, iteF ?_⟩⟩
    refine ⟨.ref a, rfl, a, _, 1, u, rfl, rfl, hT, atI_nat (j := 1) rfl, .ref bs, rfl, _, rfl, _, _, rfl, rfl, .ref a, rfl, a, _, 0, _, rfl, rfl, hT, atI_nat (j := 0) rfl, ?_⟩
    refine ⟨u, bs, l, "sure", s, ?_, hu, ?_, hb, q⟩
    ·show [u, V.ref bs, V.int (((n + 1 : Nat) : Int) - 1), V.str "sure"] = [u, V.ref bs, V.int (n : Int), V.str "sure"]
     rw [show (((n + 1 : Nat) : Int) - 1) = (n : Int) by omega]
    ·rw [decide_eq_true rfl]
     exact hok
   | list s =>
    obtain ⟨a, u, rfl, ha, hu⟩ := hv
    have hT : SqT K H a [.str "list", u] := .inl (.inl ha)
    refine ⟨.ref a, rfl, _, _, _, _, true, rfl, .ty "tuple", .base (.tup ha), kit_ty (by decide +kernel), true, rfl, iteF ?_⟩
    refine ⟨_, rfl, rfl, false, blF n0, iteF ⟨.ref a, rfl, a, _, rfl, .inr hT, rfl, false, blNF rfl, iteF ⟨.ref a, rfl, a, _, 0, _, rfl, rfl, hT, atI_nat (j := 0) rfl, wa, _, rfl, .inr (hW H), rfl, rfl, false, ?_, iteF ?_⟩⟩⟩
    ·show V.bl (!inV (.str "list") [.str "list", .str "sure"]) = V.bl false
     rw [inW_list]
     rfl
    refine ⟨.ref a, rfl, a, _, 0, _, rfl, rfl, hT, atI_nat (j := 0) rfl, rfl, false, blF list_sure, iteF ?_⟩
    refine ⟨.ref a, rfl, a, _, 1, u, rfl, rfl, hT, atI_nat (j := 1) rfl, .ref bs, rfl, _, rfl, _, _, rfl, rfl, .ref a, rfl, a, _, 0, _, rfl, rfl, hT, atI_nat (j := 0) rfl, ?_⟩
    refine ⟨u, bs, l, "list", s, ?_, hu, ?_, hb, q⟩
    ·show [u, V.ref bs, V.int (((n + 1 : Nat) : Int) - 1), V.str "list"] = [u, V.ref bs, V.int (n : Int), V.str "list"]
     rw [show (((n + 1 : Nat) : Int) - 1) = (n : Int) by omega]
    ·rw [decide_eq_false (fun e => list_sure (congrArg V.str e))]
     exact hok
end
end NW
namespace NW
open PySem PySem.Spec PyProof.Rows L2
open TL (tl)
abbrev s_is_fields : Stmt := topS 31
abbrev N_is_fields : List Str := ["fields", "most", "bases", "name"]
theorem sc_is_fields : FnScope N_is_fields ["fields", "most", "bases"] (defScope s_is_fields) := ⟨rfl, rfl, rfl, by decide +kernel, rfl, by decide +kernel, by decide +kernel⟩
abbrev s_is_kind : Stmt := topS 32
abbrev N_is_kind : List Str := ["worth", "faces", "bases"]
theorem sc_is_kind : FnScope N_is_kind ["worth", "faces", "bases"] (defScope s_is_kind) := ⟨rfl, rfl, rfl, by decide +kernel, rfl, by decide +kernel, by decide +kernel⟩
abbrev s_has_fields : Stmt := topS 34
abbrev N_has_fields : List Str := ["holder", "fields", "field"]
theorem sc_has_fields : FnScope N_has_fields ["holder", "fields"] (defScope s_has_fields) := ⟨rfl, rfl, rfl, by decide +kernel, rfl, by decide +kernel, by decide +kernel⟩
abbrev s_is_face : Stmt := topS 33
abbrev N_is_face : List Str := ["name", "fields", "kinds", "bases", "holders", "kind", "holder"]
theorem sc_is_face : FnScope N_is_face ["name", "fields", "kinds", "bases"] (defScope s_is_face) := ⟨rfl, rfl, rfl, by decide +kernel, rfl, by decide +kernel, by decide +kernel⟩
abbrev s_is_union : Stmt := topS 35
abbrev N_is_union : List Str := ["worth", "kinds"]
theorem sc_is_union : FnScope N_is_union ["worth", "kinds"] (defScope s_is_union) := ⟨rfl, rfl, rfl, by decide +kernel, rfl, by decide +kernel, by decide +kernel⟩
def shD : Shp → PyData
 | .base z => .str z
 | .sure s => .tuple [.str "sure", shD s]
 | .list s => .tuple [.str "list", shD s]
theorem tx_sure : PyData.strOk "sure" = true := by decide +kernel
theorem tx_list : PyData.strOk "list" = true := by decide +kernel
theorem shD_lay {l : List Str} (tx : ∀ z ∈ l, PyData.strOk z = true) : ∀ {s : Shp} {n : Nat} {o : Bool}, okS l n o s → (shD s).canLay0 = true := by
 intro s
 induction s with
 | base z =>
  intro n o h
  simp only [shD, PyData.canLay0]
  exact tx z (by cases n <;> exact h)
 | sure s ih =>
  intro n o h
  cases n with
  | zero => exact h.elim
  | succ n => simp [shD, PyData.canLay0, PyData.canLayAll0, ih h.2, tx_sure]
 | list s ih =>
  intro n o h
  cases n with
  | zero => exact h.elim
  | succ n => simp [shD, PyData.canLay0, PyData.canLayAll0, ih (show okS l n false s from h), tx_list]
def Shp.deep : Shp → Nat
 | .base _ => 0
 | .sure s => s.deep + 1
 | .list s => s.deep + 1
section
variable {P : Program} {w : World} {K : PySem.W.Frag} {mg : Str → Option Value} {base : Heap}

theorem shD_dp {H : Hp} : ∀ {s : Shp} {v : V}, ShAt H v s → Dp K H v (shD s) := by
 intro s
 induction s with
 | base z => rintro v rfl; exact .str z
 | sure s ih =>
  rintro v ⟨a, u, rfl, ha, hu⟩
  exact .tup (.inl (.inl ha)) (.cons (.str _) (.cons (ih hu) .nil))
 | list s ih =>
  rintro v ⟨a, u, rfl, ha, hu⟩
  exact .tup (.inl (.inl ha)) (.cons (.str _) (.cons (ih hu) .nil))
theorem okS_deep {l : List Str} : ∀ {n : Nat} {o : Bool} {s : Shp}, okS l n o s → s.deep ≤ n := by
 intro n o s
 induction s generalizing n o with
 | base z => intro _; exact Nat.zero_le _
 | sure s ih =>
  intro h
  cases n with
  | zero => exact h.elim
  | succ n => exact Nat.succ_le_succ (ih h.2)
 | list s ih =>
  intro h
  cases n with
  | zero => exact h.elim
  | succ n => exact Nat.succ_le_succ (ih (show okS l n false s from h))
theorem shD_deep : ∀ s : Shp, (shD s).depth ≤ s.deep + 1 := by
 intro s
 induction s with
 | base z => simp [shD, PyData.depth]
 | sure s ih => simp [shD, PyData.depth, PyData.depthAll, Shp.deep]; omega
 | list s ih => simp [shD, PyData.depth, PyData.depthAll, Shp.deep]; omega
theorem shD_ok {l : List Str} {o : Bool} {s : Shp} (tx : ∀ z ∈ l, PyData.strOk z = true) (h : okS l 4 o s) : SeqAt.shaped (shD s) = true := by
 have h1 := okS_deep h
 have h2 := shD_deep s
 exact Bool.and_eq_true_iff.mpr ⟨shD_lay tx h, decide_eq_true (by omega)⟩
theorem sqL_put {H : Hp} {t tk : Addr} {kvs : List (Key × V)} {o : HO} {xs : List V} (e : H t = some (.dK kvs)) (h : SqL K H tk xs) : SqL K (upd H t o) tk xs := by
 rcases h with (h | ⟨o', h⟩) | h
 ·exact .inl (.inl (by rw [upd_ne (ne_of h e (by intro z; cases z))]; exact h))
 ·exact .inl (.inr ⟨o', by rw [upd_ne (ne_of h e (by intro z; cases z))]; exact h⟩)
 ·exact .inr h
theorem rd_put {H : Hp} {a d : Addr} {kvs : List (Key × V)} {u : HO} {od : Obj} (e : H d = some u) (h : H a = some (.dK kvs)) : Rd (upd H d (.frz od u)) a (.dK kvs) := by
 by_cases n : a = d
 ·subst n
  rw [e] at h
  cases h
  exact .inr ⟨od, upd_same⟩
 ·exact .inl (by rw [upd_ne n]; exact h)
theorem rd_same {H H' : Hp} {a : Addr} {u : HO} (x : Same H H') (h : Rd H a u) : Rd H' a u := by
 rcases h with h | ⟨o, h⟩
 ·exact .inl (x _ _ h)
 ·exact .inr ⟨o, x _ _ h⟩
theorem fkv_keys (fs : List Fld) : (fkv fs).map (·.1) = (fs.map (·.1)).map Sum.inr := keys_map fs (·.1) (·.2.1)
theorem fkv_at {fs : List Fld} {i : Nat} {k : Key} {v : V} (e : (fkv fs)[i]? = some (k, v)) : ∃ f, fs[i]? = some f ∧ k = Sum.inr f.1 ∧ v = f.2.1 := by
 unfold fkv at e
 rw [List.getElem?_map] at e
 cases h : fs[i]? with
 | none => rw [h] at e; cases e
 | some f =>
  rw [h] at e
  cases e
  exact ⟨f, rfl, rfl, rfl⟩
theorem fkv_val {fs : List Fld} (nd : (fs.map (·.1)).Nodup) {f : Fld} (m : f ∈ fs) : valV (fkv fs) (Sum.inr f.1) = some f.2.1 := valV_map (f := fun f : Fld => f.1) (g := fun f => f.2.1) nd m
def spIsFields (K : PySem.W.Frag) : Sp := fun vs H Q _ => ∃ (d bs : Addr) (m : Nat) (fs : List Fld) (l : List Str), vs = [.ref d, .int m, .ref bs] ∧ FldAt H d fs ∧ FdsOk l fs m ∧ m ≤ 1000 ∧ SqL K H bs (l.map V.str) ∧ ∀ H', Same H H' → Q (.bl true) H'
theorem ok_is_fields {f f1 f2 : Addr} {fd fd1 fd2 : FuncData} (D : Df K mg "is_fields" s_is_fields f fd ["fields", "most", "bases"]) (D_is_table : Df K mg "is_table" s_is_table f1 fd1 ["table", "least", "most", "taken"])
  (D_is_shape : DfS K mg f2 fd2) (T : Nms mg) (C : Cst K mg) (G_is_table : FnOk P w K mg base CX0 2 f1 fd1 ["table", "least", "most", "taken"] (spIsTable K)) : FnOk P w K mg base CX0 6 f fd ["fields", "most", "bases"] (spIsFields K) := by
 have G_is_shape : FnOk P w K mg base CX0 5 f2 fd2 ["shape", "bases", "room", "outer"] (spIsShape K 4) := ok_is_shape D_is_shape T C 4
 obtain ⟨ds, rS, bS⟩ := D_is_shape.b2
 refine D.F.ok sc_is_fields (fun vs H Q E h => ?_) (fun cdv A outer s H vs Q E hr h => ?_)
 ·obtain ⟨d, bs, m, fs, l, rfl, _⟩ := h
  rfl
 ·obtain ⟨d, bs, m, fs, l, rfl, hf, ok, hm, hb, q⟩ := h
  have hu := hu_of hr
  refine ⟨_, (pss_cons (ps_if (pt_not (pt_val (pe_call G_is_table (hr.mono (by decide)) (by rfl) D_is_table.g D_is_table.F.kp D_is_table.b .nil pass0 (pa_cons (pv 0) (pa_cons pe_int (pa_cons (pv 1) (pa_cons (pe_tup pa_nil) pa_nil)))))))
    (pss_one (ps_ret pe_bl))
    pss_nil)
   (pss_one (ps_ret (pe_callB (cr_all rfl) (by rfl) T.n_all (by decide +kernel) (pa_cons (pe_lock (pe_lc (own := [("name", 3)]) (g := (gName 3)) (tt := tYes) rfl sc_is_fields.nd (pi_keys (pv 0)) (blkOk_by (own := [("name", 3)]) (N := N_is_fields) (sc := defScope s_is_fields) (by decide +kernel)) (fun _ _ _ _ _ => (pg_name (i := 3) sc_is_fields.nd rfl (.inl rfl))) (fun _ _ _ _ _ => pts_nil) (fun _ _ _ _ _ => (pe_call G_is_shape (hr.mono (by decide)) (by rfl) D_is_shape.g D_is_shape.F.kp bS rS pass0 (pa_cons (pe_dget hu (pv 0) (pv 3) (fun _ _ => rfl)) (pa_cons (pv 2) pa_nil)))))) pa_nil))))), ?_⟩
  refine ⟨.ref d, rfl, .int m, rfl, Nat.zero_le _, fun p np => ?_⟩
  refine ⟨d, p, fkv fs, fs.map (·.1), [], 1, m, rfl, by rw [upd_ne (ne_of_none hf.at_ np)]; exact hf.at_, fkv_keys fs, fun z hz => ⟨?_, by simp⟩, ?_, ?_, ?_, .inr (.inl (.inl upd_same)), fun H1 s1 => ⟨true, rfl, iteF ?_⟩⟩
  ·obtain ⟨x, hx, rfl⟩ := List.mem_map.mp hz
   exact ok.nm x hx
  ·rw [List.length_map]; have := ok.n0; omega
  ·rw [List.length_map]; have := ok.n1; omega
  ·rw [List.length_map]; have := ok.n1; omega
  have sm1 : Same H H1 := (same_new np).trans s1
  have hf1 := hf.same sm1
  refine ⟨d, .dK (fkv fs), hf1.at_, trivial, fun od => ⟨.ref d, rfl, d, od, rfl, .inl ⟨fkv fs, upd_same, fun Da nD => ?_⟩⟩⟩
  have hfl : (fkv fs).length = fs.length := List.length_map ..
  refine lc_all walk_keys (fun i x => ∃ f, fs[i]? = some f ∧ x = .str f.1) ?_ (fun H sm => sm _ _ upd_same) nD (by rw [hfl]; have := ok.n1; omega) (fun _ => rfl) ?_ ?_
  ·rintro i H x H' hi ⟨rfl, k, v, e, rfl⟩
   obtain ⟨f, ef, rfl, rfl⟩ := fkv_at e
   exact ⟨rfl, f, ef, rfl⟩
  ·rintro i x H2 Q2 hi ⟨f, ef, rfl⟩ sm k
   have hm := List.mem_of_getElem? ef
   refine ⟨.ref d, rfl, .str f.1, rfl, d, f.2.1, rfl, .inl ⟨fkv fs, .inr f.1, .inr ⟨od, sm _ _ upd_same⟩, rfl, (fkv_val ok.nd hm).symm⟩, .ref bs, rfl, ?_⟩
   refine ⟨f.2.1, bs, l, "", f.2.2, rfl, ?_, ?_, sm.seq (sqL_put hf1.at_ (sm1.seq hb)), k _ (Same.refl _)⟩
   ·exact ((hf1.sh f hm).gr (xs := []) (.inr ⟨_, hf1.at_⟩) Gr.box).same sm
   ·rw [decide_eq_false (show ¬ (("" : Str) = "sure") by decide +kernel)]
    exact ok.sh f hm
  ·intro H2 sm e2
   refine ⟨sm _ _ upd_same, Da, List.replicate (fkv fs).length true, rfl, SqL.of ?_, ?_⟩
   ·rw [upd_ne (show Da ≠ d from fun z => by rw [z, upd_same] at nD; cases nD)]
    exact e2
   ·rw [all_true]
    exact q _ (sm1.trans (same_unlock hf1.at_ sm))
def spIsKind (K : PySem.W.Frag) : Sp := fun vs H Q _ => ∃ (k : KRow) (ft bs : Addr) (kvs : List (Key × V)) (l : List Str), vs = [.ref k.t, .ref ft, .ref bs] ∧ k.At H ∧ H ft = some (.dK kvs) ∧ k.fcs.Nodup ∧ k.fcs.length ≤ 1000 ∧ (∀ z ∈ k.fcs, (valV kvs (Sum.inr z)).isSome = true) ∧
 FdsOk l k.fds 5 ∧ SqL K H bs (l.map V.str) ∧ ∀ H', Same H H' → Q (.bl true) H'
theorem ok_is_kind {f f1 f2 : Addr} {fd fd1 fd2 : FuncData} (D : Df K mg "is_kind" s_is_kind f fd ["worth", "faces", "bases"]) (D_is_choice : Df K mg "is_choice" s_is_choice f1 fd1 ["names", "table"])
  (D_is_fields : Df K mg "is_fields" s_is_fields f2 fd2 ["fields", "most", "bases"]) (T : Nms mg) (C : Cst K mg) (G_is_choice : FnOk P w K mg base CX0 2 f1 fd1 ["names", "table"] (spIsChoice K)) (G_is_fields : FnOk P w K mg base CX0 6 f2 fd2 ["fields", "most", "bases"] (spIsFields K)) :
  FnOk P w K mg base CX0 7 f fd ["worth", "faces", "bases"] (spIsKind K) := by
 obtain ⟨t5, g_M⟩ := C.MOST_KIND_FIELDS
 refine D.F.ok sc_is_kind (fun vs H Q E h => ?_) (fun cdv A outer s H vs Q E hr h => ?_)
 ·obtain ⟨k, ft, bs, kvs, l, rfl, _⟩ := h
  rfl
 ·obtain ⟨k, ft, bs, kvs, l, rfl, hk, hft, hnd, hln, hin, ok, hb, q⟩ := h
  refine ⟨_, (pss_cons (ps_if (PW.pt (pw_or (pt_not (pt_val (pe_callB call_isi (by rfl) T.n_isinstance (by decide +kernel) (pa_cons (pv 0) (pa_cons (pe_bltn (v := .ty "tuple") (by rfl) T.n_tuple (by decide +kernel) rfl) pa_nil))))) (pw_or1 (pt_cmpR op_ne (pe_callB call_len_seq (by rfl) T.n_len (by decide +kernel) (pa_cons (pv 0) pa_nil)) pe_int (nomark _)))))
    (pss_one (ps_ret pe_bl))
    pss_nil)
   (pss_one (ps_ret (pe_and (pe_call G_is_choice (hr.mono (by decide)) (by rfl) D_is_choice.g D_is_choice.F.kp D_is_choice.b .nil pass0 (pa_cons (pe_ix ix_tup (pv 0) pe_int (fun _ _ => rfl)) (pa_cons (pv 1) pa_nil))) (pe_one (pe_call G_is_fields (hr.mono (by decide)) (by rfl) D_is_fields.g D_is_fields.F.kp D_is_fields.b .nil pass0 (pa_cons (pe_ix ix_tup (pv 0) pe_int (fun _ _ => rfl)) (pa_cons (pe_glob (v := .int 5) (by rfl) g_M ⟨_, rfl⟩) (pa_cons (pv 2) pa_nil))))))))), ?_⟩
  have hT : SqT K H k.t [.ref k.fa, .ref k.da] := .inl (.inl hk.t)
  refine ⟨.ref k.t, rfl, _, _, _, _, true, rfl, .ty "tuple", .base (.tup hk.t), kit_ty (by decide +kernel), true, rfl, iteF ⟨.ref k.t, rfl, k.t, _, rfl, .inr hT, rfl, false, blNF rfl, iteF ?_⟩⟩
  refine ⟨.ref k.t, rfl, k.t, _, 0, _, rfl, rfl, hT, atI_nat (j := 0) rfl, .ref ft, rfl, k.fa, ft, kvs, k.fcs, rfl, hk.f, hft, hnd, hln, hin, fun H1 s1 => ⟨true, rfl, iteT ?_⟩⟩
  have hk1 := hk.same s1
  refine ⟨.ref k.t, rfl, k.t, _, 1, _, rfl, rfl, .inl (.inl hk1.t), atI_nat (j := 1) rfl, .ref bs, rfl, k.da, bs, 5, k.fds, l, rfl, hk1.d, ok, by decide, s1.seq hb, fun H2 s2 => q _ (s1.trans s2)⟩
def spHasFields : Sp := fun vs H Q _ => ∃ (h d : Addr) (hs fs : List Fld) (l : List Str) (n : Nat), vs = [.ref h, .ref d] ∧ FldAt H h hs ∧ FldAt H d fs ∧ (hs.map (·.1)).Nodup ∧ FdsOk l fs n ∧ n ≤ 1000 ∧ (∀ x ∈ fs, ∃ y ∈ hs, y.1 = x.1 ∧ y.2.2 = x.2.2) ∧ ∀ H', Same H H' → Q (.bl true) H'
theorem ok_has_fields {f : Addr} {fd : FuncData} (D : Df K mg "has_fields" s_has_fields f fd ["holder", "fields"]) (T : Nms mg) : FnOk P w K mg base CX0 1 f fd ["holder", "fields"] spHasFields := by
 refine D.F.ok sc_has_fields (fun vs H Q E h => ?_) (fun cdv A outer s H vs Q E hr h => ?_)
 ·obtain ⟨h, d, hs, fs, l, n, rfl, _⟩ := h
  rfl
 ·obtain ⟨h, d, hs, fs, l, n, rfl, hh, hf, hnd, ok, hn, hin, q⟩ := h
  have hu := hu_of hr
  refine ⟨_, (pss_one (ps_ret (pe_callB (cr_all rfl) (by rfl) T.n_all (by decide +kernel) (pa_cons (pe_lock (pe_lc (own := [("field", 2)]) (g := (gName 2)) (tt := tYes) rfl sc_has_fields.nd (pi_keys (pv 1)) (blkOk_by (own := [("field", 2)]) (N := N_has_fields) (sc := defScope s_has_fields) (by decide +kernel)) (fun _ _ _ _ _ => (pg_name (i := 2) sc_has_fields.nd rfl (.inl rfl))) (fun _ _ _ _ _ => pts_nil) (fun _ _ _ _ _ => (pe_and (pe_cmp (pc_din hu (pv 2) (pv 0)) rfl) (pe_one (pe_cmpR (op_eqDK K hr.units) (pe_dget hu (pv 0) (pv 2) (fun _ _ => rfl)) (pe_dget hu (pv 1) (pv 2) (fun _ _ => rfl)) (nomark _))))))) pa_nil)))), ?_⟩
  refine ⟨d, .dK (fkv fs), hf.at_, trivial, fun od => ⟨.ref d, rfl, d, od, rfl, .inl ⟨fkv fs, upd_same, fun Da nD => ?_⟩⟩⟩
  have hfl : (fkv fs).length = fs.length := List.length_map ..
  refine lc_all walk_keys (fun i x => ∃ f, fs[i]? = some f ∧ x = .str f.1) ?_ (fun H sm => sm _ _ upd_same) nD (by rw [hfl]; have := ok.n1; omega) (fun _ => rfl) ?_ ?_
  ·rintro i H x H' hi ⟨rfl, k, v, e, rfl⟩
   obtain ⟨f, ef, rfl, rfl⟩ := fkv_at e
   exact ⟨rfl, f, ef, rfl⟩
  ·rintro i x H2 Q2 hi ⟨f, ef, rfl⟩ sm k
   have hm := List.mem_of_getElem? ef
   obtain ⟨y, ym, y1, y2⟩ := hin f hm
   have rh : Rd H2 h (.dK (fkv hs)) := rd_same sm (rd_put hf.at_ hh.at_)
   have vy : valV (fkv hs) (Sum.inr f.1) = some y.2.1 := by rw [← y1]; exact fkv_val hnd ym
   have sh1 : ShAt H2 y.2.1 f.2.2 := by
    rw [← y2]
    exact ((hh.sh y ym).gr (xs := []) (.inr ⟨_, hf.at_⟩) Gr.box).same sm
   have sh2 : ShAt H2 f.2.1 f.2.2 := ((hf.sh f hm).gr (xs := []) (.inr ⟨_, hf.at_⟩) Gr.box).same sm
   refine ⟨.str f.1, rfl, .ref h, rfl, h, some y.2.1, rfl, .inl ⟨fkv hs, .inr f.1, rh, rfl, vy.symm⟩, true, rfl, iteT ?_⟩
   refine ⟨.ref h, rfl, .str f.1, rfl, h, y.2.1, rfl, .inl ⟨fkv hs, .inr f.1, rh, rfl, vy.symm⟩, .ref d, rfl, .str f.1, rfl, d, f.2.1, rfl, .inl ⟨fkv fs, .inr f.1, .inr ⟨od, sm _ _ upd_same⟩, rfl, (fkv_val ok.nd hm).symm⟩, ?_⟩
   refine ⟨shD f.2.2, shD f.2.2, shD_dp sh1, shD_dp sh2, shD_ok ok.tx (ok.sh f hm), shD_ok ok.tx (ok.sh f hm), ?_⟩
   rw [SeqAt.eqv_refl _ (shD_lay ok.tx (ok.sh f hm))]
   exact k _ (Same.refl _)
  ·intro H2 sm e2
   refine ⟨sm _ _ upd_same, Da, List.replicate (fkv fs).length true, rfl, SqL.of ?_, ?_⟩
   ·rw [upd_ne (show Da ≠ d from fun z => by rw [z, upd_same] at nD; cases nD)]
    exact e2
   ·rw [all_true]
    exact q _ (same_unlock hf.at_ sm)
def spIsUnion : Sp := fun vs H Q _ => ∃ (a kt : Addr) (kvs : List (Key × V)) (ms : List Str), vs = [.ref a, .ref kt] ∧ H a = some (.tup (ms.map V.str)) ∧ H kt = some (.dK kvs) ∧ ms.Nodup ∧ 1 ≤ ms.length ∧ ms.length ≤ 4 ∧ (∀ z ∈ ms, (valV kvs (Sum.inr z)).isSome = true) ∧ ∀ H', Same H H' → Q (.bl true) H'
theorem ok_is_union {f f1 : Addr} {fd fd1 : FuncData} (D : Df K mg "is_union" s_is_union f fd ["worth", "kinds"]) (D_is_choice : Df K mg "is_choice" s_is_choice f1 fd1 ["names", "table"]) (T : Nms mg) (C : Cst K mg)
  (G_is_choice : FnOk P w K mg base CX0 2 f1 fd1 ["names", "table"] (spIsChoice K)) : FnOk P w K mg base CX0 3 f fd ["worth", "kinds"] spIsUnion := by
 obtain ⟨t4, g_M⟩ := C.MOST_UNION_KINDS
 refine D.F.ok sc_is_union (fun vs H Q E h => ?_) (fun cdv A outer s H vs Q E hr h => ?_)
 ·obtain ⟨a, kt, kvs, ms, rfl, _⟩ := h
  rfl
 ·obtain ⟨a, kt, kvs, ms, rfl, ha, hk, hnd, h1, h4, hin, q⟩ := h
  refine ⟨_, (pss_one (ps_ret (pe_and (pe_call G_is_choice (hr.mono (by decide)) (by rfl) D_is_choice.g D_is_choice.F.kp D_is_choice.b .nil pass0 (pa_cons (pv 0) (pa_cons (pv 1) pa_nil))) (pe_one (pe_chain op_le op_le pe_int (pe_callB call_len_seq (by rfl) T.n_len (by decide +kernel) (pa_cons (pv 0) pa_nil)) (pe_glob (v := .int 4) (by rfl) g_M ⟨_, rfl⟩)))))), ?_⟩
  refine ⟨.ref a, rfl, .ref kt, rfl, a, kt, kvs, ms, rfl, ha, hk, hnd, by omega, hin, fun H1 s1 => ⟨true, rfl, iteT ?_⟩⟩
  refine ⟨.ref a, rfl, a, _, rfl, .inr (.inl (.inl (s1 _ _ ha))), _, _, rfl, rfl, true, blT (by rw [List.length_map]; omega), iteT ⟨_, _, rfl, rfl, ?_⟩⟩
  have e : decide (((ms.map V.str).length : Int) ≤ 4) = true := decide_eq_true (by rw [List.length_map]; omega)
  show Q (.bl (decide (((ms.map V.str).length : Int) ≤ 4))) H1
  rw [e]
  exact q _ s1
end
end NW
namespace NW
open PySem PySem.Spec PyProof.Rows L2
open TL (tl)
open StX (pa_star)
abbrev s_check_names : Stmt := topS 28
abbrev N_check_names : List Str := ["kinds", "faces", "unions"]
theorem sc_check_names : FnScope N_check_names ["kinds", "faces", "unions"] (defScope s_check_names) := ⟨rfl, rfl, rfl, by decide +kernel, rfl, by decide +kernel, by decide +kernel⟩
abbrev s_check_schema : Stmt := topS 27
abbrev N_check_schema : List Str := ["kinds", "faces", "unions", "root", "bases", "name"]
theorem sc_check_schema : FnScope N_check_schema ["kinds", "faces", "unions", "root"] (defScope s_check_schema) := ⟨rfl, rfl, rfl, by decide +kernel, rfl, by decide +kernel, by decide +kernel⟩
theorem kV_map {α : Type} (l : List α) (f : α → Str) (g : α → V) : ((l.map fun a => ((Sum.inr (f a) : Key), g a)).map fun kv => kV kv.1) = (l.map f).map V.str := by
 rw [List.map_map, List.map_map]
 rfl
abbrev dkeys (kvs : List (Key × V)) : List V := kvs.map fun kv => kV kv.1
abbrev LV : List Str := [("number" : Str), ("text" : Str)]
theorem dkeys_k (ks : List KRow) : dkeys (kkv ks) = (ks.map fun k : KRow => k.nm).map V.str := kV_map ks (fun k => k.nm) (fun k => V.ref k.t)
theorem dkeys_f (fs : List FRow) : dkeys (fkvs fs) = (fs.map fun k : FRow => k.nm).map V.str := kV_map fs (fun k => k.nm) (fun k => V.ref k.da)
theorem dkeys_u (us : List URow) : dkeys (ukv us) = (us.map fun k : URow => k.nm).map V.str := kV_map us (fun k => k.nm) (fun k => V.ref k.t)
theorem dkeys_len (kvs : List (Key × V)) : (dkeys kvs).length = kvs.length := List.length_map ..
section
variable {ks : List KRow} {fs : List FRow} {us : List URow} {root : Str}
theorem SchOk.ndk (h : SchOk ks fs us root) : (ks.map (·.nm)).Nodup := ((List.nodup_append.mp (List.nodup_append.mp h.nd).2.1)).1
theorem SchOk.ndfu (h : SchOk ks fs us root) : (fs.map (·.nm) ++ us.map (·.nm)).Nodup := ((List.nodup_append.mp (List.nodup_append.mp h.nd).2.1)).2.1
theorem SchOk.ndf (h : SchOk ks fs us root) : (fs.map (·.nm)).Nodup := (List.nodup_append.mp h.ndfu).1
theorem SchOk.ndu (h : SchOk ks fs us root) : (us.map (·.nm)).Nodup := (List.nodup_append.mp h.ndfu).2.1
theorem SchOk.lv (h : SchOk ks fs us root) {z : Str} (m : z ∈ ks.map (·.nm) ++ (fs.map (·.nm) ++ us.map (·.nm))) : z ∉ [("number" : Str), ("text" : Str)] := fun q => (List.nodup_append.mp h.nd).2.2 z q z m rfl
theorem SchOk.kfu (h : SchOk ks fs us root) {z : Str} (m : z ∈ ks.map (·.nm)) : z ∉ fs.map (·.nm) ++ us.map (·.nm) := fun q => (List.nodup_append.mp (List.nodup_append.mp h.nd).2.1).2.2 z m z q rfl
theorem SchOk.fu (h : SchOk ks fs us root) {z : Str} (m : z ∈ fs.map (·.nm)) : z ∉ us.map (·.nm) := fun q => (List.nodup_append.mp h.ndfu).2.2 z m z q rfl
theorem kkv_keys (ks : List KRow) : (kkv ks).map (·.1) = (ks.map (·.nm)).map Sum.inr := keys_map ks (·.nm) (V.ref ·.t)
theorem fkvs_keys (fs : List FRow) : (fkvs fs).map (·.1) = (fs.map (·.nm)).map Sum.inr := keys_map fs (·.nm) (V.ref ·.da)
theorem ukv_keys (us : List URow) : (ukv us).map (·.1) = (us.map (·.nm)).map Sum.inr := keys_map us (·.nm) (V.ref ·.t)
theorem kkv_val (nd : (ks.map (·.nm)).Nodup) {k : KRow} (m : k ∈ ks) : valV (kkv ks) (Sum.inr k.nm) = some (.ref k.t) := valV_map (f := fun k : KRow => k.nm) (g := fun k : KRow => V.ref k.t) nd m
theorem fkvs_val (nd : (fs.map (·.nm)).Nodup) {k : FRow} (m : k ∈ fs) : valV (fkvs fs) (Sum.inr k.nm) = some (.ref k.da) := valV_map (f := fun k : FRow => k.nm) (g := fun k : FRow => V.ref k.da) nd m
theorem ukv_val (nd : (us.map (·.nm)).Nodup) {k : URow} (m : k ∈ us) : valV (ukv us) (Sum.inr k.nm) = some (.ref k.t) := valV_map (f := fun k : URow => k.nm) (g := fun k : URow => V.ref k.t) nd m
theorem kkv_some (nd : (ks.map (·.nm)).Nodup) {z : Str} (m : z ∈ ks.map (·.nm)) : (valV (kkv ks) (Sum.inr z)).isSome = true := by
 obtain ⟨k, hk, rfl⟩ := List.mem_map.mp m
 rw [kkv_val nd hk]
 rfl
theorem fkvs_some (nd : (fs.map (·.nm)).Nodup) {z : Str} (m : z ∈ fs.map (·.nm)) : (valV (fkvs fs) (Sum.inr z)).isSome = true := by
 obtain ⟨k, hk, rfl⟩ := List.mem_map.mp m
 rw [fkvs_val nd hk]
 rfl
theorem kkv_at {i : Nat} {k : Key} {v : V} (e : (kkv ks)[i]? = some (k, v)) : ∃ r, ks[i]? = some r ∧ k = Sum.inr r.nm ∧ v = .ref r.t := by
 unfold kkv at e
 rw [List.getElem?_map] at e
 cases h : ks[i]? with
 | none => rw [h] at e; cases e
 | some f =>
  rw [h] at e
  cases e
  exact ⟨f, rfl, rfl, rfl⟩
end
section
variable {P : Program} {w : World} {K : PySem.W.Frag} {mg : Str → Option Value} {base : Heap}

def spIsFace (K : PySem.W.Frag) : Sp := fun vs H Q _ => ∃ (kt bs : Addr) (f : FRow) (ks : List KRow) (l : List Str), vs = [.str f.nm, .ref f.da, .ref kt, .ref bs] ∧ FldAt H f.da f.fds ∧ FdsOk l f.fds 4 ∧ H kt = some (.dK (kkv ks)) ∧ (∀ k ∈ ks, k.At H) ∧ (ks.map (·.nm)).Nodup ∧ ks.length ≤ 6 ∧
 (∀ k ∈ ks, (k.fds.map (·.1)).Nodup) ∧ (∃ k ∈ ks, f.nm ∈ k.fcs) ∧ (∀ k ∈ ks, f.nm ∈ k.fcs → ∀ x ∈ f.fds, ∃ y ∈ k.fds, y.1 = x.1 ∧ y.2.2 = x.2.2) ∧ SqL K H bs (l.map V.str) ∧ ∀ H', Same H H' → Q (.bl true) H'
theorem ok_is_face {f f1 f2 : Addr} {fd fd1 fd2 : FuncData} (D : Df K mg "is_face" s_is_face f fd ["name", "fields", "kinds", "bases"]) (D_is_fields : Df K mg "is_fields" s_is_fields f1 fd1 ["fields", "most", "bases"])
  (D_has_fields : Df K mg "has_fields" s_has_fields f2 fd2 ["holder", "fields"]) (T : Nms mg) (C : Cst K mg) (G_is_fields : FnOk P w K mg base CX0 6 f1 fd1 ["fields", "most", "bases"] (spIsFields K)) : FnOk P w K mg base CX0 7 f fd ["name", "fields", "kinds", "bases"] (spIsFace K) := by
 have G_has_fields : FnOk P w K mg base CX0 1 f2 fd2 ["holder", "fields"] spHasFields := ok_has_fields D_has_fields T
 obtain ⟨t4, g_M⟩ := C.MOST_FACE_FIELDS
 refine D.F.ok sc_is_face (fun vs H Q E h => ?_) (fun cdv A outer s H vs Q E hr h => ?_)
 ·obtain ⟨kt, bs, f, ks, l, rfl, _⟩ := h
  rfl
 ·obtain ⟨kt, bs, f, ks, l, rfl, hf, ok, hk, hka, hnd, hl6, hfn, ⟨k0, hk0, hk1⟩, hff, hb, q⟩ := h
  have hu := hu_of hr
  refine ⟨_, (pss_cons (ps_if (pt_not (pt_val (pe_call G_is_fields (hr.mono (by decide)) (by rfl) D_is_fields.g D_is_fields.F.kp D_is_fields.b .nil pass0 (pa_cons (pv 1) (pa_cons (pe_glob (v := .int 4) (by rfl) g_M ⟨_, rfl⟩) (pa_cons (pv 3) pa_nil))))))
    (pss_one (ps_ret pe_bl))
    pss_nil)
   (pss_cons (ps_lock (ps_setLc (i := 4) (own := [("kind", 5)]) (g := (gName 5)) rfl sc_is_face.nd rfl rfl (sw_true rfl rfl rfl (by decide +kernel)) (pi_keys (pv 2)) (blkOk_by (own := [("kind", 5)]) (N := N_is_face) (sc := defScope s_is_face) (by decide +kernel)) (fun _ _ _ _ _ => (pg_name (i := 5) sc_is_face.nd rfl (.inl rfl))) (fun _ _ _ _ _ => pts_one (pt_cmpR (op_in_seqK K) (pv 0) (pe_ix (ix_tupK K) (pe_dget hu (pv 2) (pv 5) (fun _ _ => rfl)) pe_int (fun _ _ => rfl)) (by rfl))) (fun _ _ _ _ _ => (pe_ix (ix_tupK K) (pe_dget hu (pv 2) (pv 5) (fun _ _ => rfl)) pe_int (fun _ _ => rfl)))))
   (pss_one (ps_ret (pe_and (pe_cmpR op_gt (pe_callB call_len_seq (by rfl) T.n_len (by decide +kernel) (pa_cons (pv 4) pa_nil)) pe_int (nomark _)) (pe_one (pe_callB (cr_all rfl) (by rfl) T.n_all (by decide +kernel) (pa_cons (pe_lc (own := [("holder", 6)]) (g := (gName 6)) (tt := tYes) rfl sc_is_face.nd (pi_list (pv 4)) (blkOk_by (own := [("holder", 6)]) (N := N_is_face) (sc := defScope s_is_face) (by decide +kernel)) (fun _ _ _ _ _ => (pg_name (i := 6) sc_is_face.nd rfl (.inl rfl))) (fun _ _ _ _ _ => pts_nil) (fun _ _ _ _ _ => (pe_call G_has_fields (hr.mono (by decide)) (by rfl) D_has_fields.g D_has_fields.F.kp D_has_fields.b .nil pass0 (pa_cons (pv 6) (pa_cons (pv 1) pa_nil))))) pa_nil)))))))), ?_⟩
  refine ⟨.ref f.da, rfl, .ref bs, rfl, f.da, bs, 4, f.fds, l, rfl, hf, ok, by decide, hb, fun H1 s1 => ⟨true, rfl, iteF ?_⟩⟩
  have hk1' := s1 _ _ hk
  refine ⟨kt, .dK (kkv ks), hk1', trivial, fun od => ⟨.ref kt, rfl, kt, od, rfl, .inl ⟨kkv ks, upd_same, fun Da nD => ?_⟩⟩⟩
  have hkl : (kkv ks).length = ks.length := List.length_map ..
  refine lc_it walk_keys (fun i H' => Same (upd H1 kt (.frz od (.dK (kkv ks)))) H' ∧ H' Da = some (.lst (((ks.take i).filter fun k => decide (f.nm ∈ k.fcs)).map fun k => V.ref k.da))) ⟨same_new nD, upd_same⟩ (fun i H _ p => p.1 _ _ upd_same) ?_ ?_
  ·rintro i x H2 H3 hi ⟨sm, e2⟩ ⟨rfl, k, v, e, rfl⟩
   obtain ⟨r, er, rfl, rfl⟩ := kkv_at e
   have hm := List.mem_of_getElem? er
   have rk : Rd H3 kt (.dK (kkv ks)) := .inr ⟨od, sm _ _ upd_same⟩
   have hr' : r.At H1 := (hka r hm).same s1
   have ht : SqT K H3 r.t [.ref r.fa, .ref r.da] := .inl (.inl (sm _ _ (by rw [upd_ne (ne_of hr'.t hk1' (by intro z; cases z))]; exact hr'.t)))
   have hfa : SqT K H3 r.fa (r.fcs.map V.str) := .inl (.inl (sm _ _ (by rw [upd_ne (ne_of hr'.f hk1' (by intro z; cases z))]; exact hr'.f)))
   refine ⟨rfl, .str f.nm, rfl, .ref kt, rfl, .str r.nm, rfl, kt, _, rfl, .inl ⟨kkv ks, .inr r.nm, rk, rfl, (kkv_val hnd hm).symm⟩, r.t, _, 0, _, rfl, rfl, ht, atI_nat (j := 0) rfl, r.fa, _, rfl, .inr hfa, rfl, flat_map _, _, rfl, ?_⟩
   have et : ks.take (i + 1) = ks.take i ++ [r] := by rw [List.take_add_one, er]; rfl
   by_cases hin : f.nm ∈ r.fcs
   ·show if (if false = true then !inV (.str f.nm) (r.fcs.map V.str) else inV (.str f.nm) (r.fcs.map V.str)) = true then _ else _
    rw [if_neg (show ¬ (false = true) by decide), inV_strs, decide_eq_true hin, if_pos rfl]
    refine ⟨.ref kt, rfl, .str r.nm, rfl, kt, _, rfl, .inl ⟨kkv ks, .inr r.nm, rk, rfl, (kkv_val hnd hm).symm⟩, r.t, _, 1, _, rfl, rfl, ht, atI_nat (j := 1) rfl, _, e2, ?_, same_upd sm nD, ?_⟩
    ·rw [List.length_map]
     have h1 := List.length_filter_le (fun k : KRow => decide (f.nm ∈ k.fcs)) (ks.take i)
     have h2 := List.length_take_le i ks
     exact Nat.lt_of_le_of_lt (show _ ≤ 1000 by omega) (by decide)
    ·rw [upd_same, et, List.filter_append, List.map_append]
     rw [List.filter_cons_of_pos (by simpa using hin)]
     rfl
   ·show if (if false = true then !inV (.str f.nm) (r.fcs.map V.str) else inV (.str f.nm) (r.fcs.map V.str)) = true then _ else _
    rw [if_neg (show ¬ (false = true) by decide), inV_strs, decide_eq_false hin, if_neg (by decide)]
    refine ⟨sm, ?_⟩
    rw [et, List.filter_append, List.filter_cons_of_neg (by simpa using hin), List.filter_nil, List.append_nil]
    exact e2
  ·rintro H2 ⟨sm, e2⟩
   rw [hkl, List.take_length] at e2
   refine ⟨sm _ _ upd_same, ?_⟩
   have nDk : Da ≠ kt := fun z => by rw [z, upd_same] at nD; cases nD
   have s2 : Same H1 (upd H2 kt (.dK (kkv ks))) := same_unlock hk1' sm
   have e3 : (upd H2 kt (.dK (kkv ks))) Da = some (.lst ((ks.filter fun k => decide (f.nm ∈ k.fcs)).map fun k => V.ref k.da)) := by rw [upd_ne nDk]; exact e2
   generalize upd H2 kt (.dK (kkv ks)) = H3 at s2 e3
   have hl : 0 < (ks.filter fun k => decide (f.nm ∈ k.fcs)).length := List.length_pos_of_mem (List.mem_filter.mpr ⟨hk0, decide_eq_true hk1⟩)
   have hle := List.length_filter_le (fun k : KRow => decide (f.nm ∈ k.fcs)) ks
   refine ⟨.ref Da, rfl, Da, _, rfl, .inl (SqL.of e3), _, _, rfl, rfl, true, blT (by rw [List.length_map]; omega), iteT ⟨.ref Da, rfl, Da, rfl, ⟨_, SqL.of e3⟩, fun Db nB => ?_⟩⟩
   refine lc_all (walk_list (xs := (ks.filter fun k => decide (f.nm ∈ k.fcs)).map fun k => V.ref k.da)) (fun i x => ∃ k ∈ ks, f.nm ∈ k.fcs ∧ x = .ref k.da) ?_ (fun H sm => SqL.of (sm _ _ e3)) nB (by rw [List.length_map]; omega) (fun _ => rfl) ?_ ?_
   ·rintro i H x H' hi ⟨rfl, e⟩
    rw [List.getElem?_map] at e
    cases h : (ks.filter fun k => decide (f.nm ∈ k.fcs))[i]? with
    | none => rw [h] at e; cases e
    | some k =>
     rw [h] at e
     cases e
     have m := List.mem_filter.mp (List.mem_of_getElem? h)
     exact ⟨rfl, k, m.1, of_decide_eq_true m.2, rfl⟩
   ·rintro i x H4 Q4 hi ⟨k, hkm, hkf, rfl⟩ sm4 kk
    have sA : Same H H4 := (s1.trans s2).trans sm4
    exact ⟨.ref k.da, rfl, .ref f.da, rfl, k.da, f.da, k.fds, f.fds, l, 4, rfl, (hka k hkm).d.same sA, hf.same sA, hfn k hkm, ok, by decide, hff k hkm hkf, kk⟩
   ·intro H4 sm4 e4
    refine ⟨Db, List.replicate ((ks.filter fun k => decide (f.nm ∈ k.fcs)).map fun k => V.ref k.da).length true, rfl, SqL.of e4, ?_⟩
    rw [all_true]
    exact q _ ((s1.trans s2).trans sm4)
end
end NW
namespace NW
open PySem PySem.Spec PyProof.Rows L2
open TL (tl)
open StX (pa_star)
section
variable {P : Program} {w : World} {K : PySem.W.Frag} {mg : Str → Option Value} {base : Heap}

def spCheck (K : PySem.W.Frag) : Sp := fun vs H Q _ => ∃ (kt ft ut : Addr) (ks : List KRow) (fs : List FRow) (us : List URow) (root : Str), vs = [.ref kt, .ref ft, .ref ut] ∧ SchAt H kt ft ut ks fs us ∧ SchOk ks fs us root ∧ ∀ H', Same H H' → Q .non H'
theorem ok_check_names {f f1 : Addr} {fd fd1 : FuncData} (D : Df K mg "check_names" s_check_names f fd ["kinds", "faces", "unions"]) (D_is_table : Df K mg "is_table" s_is_table f1 fd1 ["table", "least", "most", "taken"]) (T : Nms mg) (C : Cst K mg)
  (G_is_table : FnOk P w K mg base CX0 2 f1 fd1 ["table", "least", "most", "taken"] (spIsTable K)) : FnOk P w K mg base CX0 3 f fd ["kinds", "faces", "unions"] (spCheck K) := by
 obtain ⟨t1, g_MOST_KINDS⟩ := C.MOST_KINDS
 obtain ⟨t2, g_MOST_FACES⟩ := C.MOST_FACES
 obtain ⟨t3, g_MOST_UNIONS⟩ := C.MOST_UNIONS
 obtain ⟨la, g_L, hL⟩ := C.LEAVES
 refine D.F.ok sc_check_names (fun vs H Q E h => ?_) (fun cdv A outer s H vs Q E hr h => ?_)
 ·obtain ⟨kt, ft, ut, ks, fs, us, root, rfl, _⟩ := h
  rfl
 ·obtain ⟨kt, ft, ut, ks, fs, us, root, rfl, S, ok, q⟩ := h
  refine ⟨_, (pss_cons (ps_if (pt_not (pt_val (pe_call G_is_table (hr.mono (by decide)) (by rfl) D_is_table.g D_is_table.F.kp D_is_table.b .nil pass0 (pa_cons (pv 0) (pa_cons pe_int (pa_cons (pe_glob (v := .int 6) (by rfl) g_MOST_KINDS ⟨_, rfl⟩) (pa_cons (pe_glob (v := .ref la) (by rfl) g_L rfl) pa_nil)))))))
    (pss_one ps_never)
    pss_nil)
   (pss_cons (ps_if (pt_not (pt_val (pe_call G_is_table (hr.mono (by decide)) (by rfl) D_is_table.g D_is_table.F.kp D_is_table.b .nil pass0 (pa_cons (pv 1) (pa_cons pe_int (pa_cons (pe_glob (v := .int 3) (by rfl) g_MOST_FACES ⟨_, rfl⟩) (pa_cons (pe_lst (pa_star (pe_glob (v := .ref la) (by rfl) g_L rfl) (pa_starD rfl (pv 0) pa_nil))) pa_nil)))))))
    (pss_one ps_never)
    pss_nil)
   (pss_one (ps_if (pt_not (pt_val (pe_call G_is_table (hr.mono (by decide)) (by rfl) D_is_table.g D_is_table.F.kp D_is_table.b .nil pass0 (pa_cons (pv 2) (pa_cons pe_int (pa_cons (pe_glob (v := .int 3) (by rfl) g_MOST_UNIONS ⟨_, rfl⟩) (pa_cons (pe_lst (pa_star (pe_glob (v := .ref la) (by rfl) g_L rfl) (pa_starD rfl (pv 0) (pa_starD rfl (pv 1) pa_nil)))) pa_nil)))))))
    (pss_one ps_never)
    pss_nil)))), ?_⟩
  refine ⟨.ref kt, rfl, kt, la, kkv ks, ks.map (·.nm), LV, 1, 6, rfl, S.kd, kkv_keys ks, fun z hz => ⟨?_, ok.lv (List.mem_append_left _ hz)⟩, ?_, ?_, ?_, .inr (hL H), fun H1 s1 => ⟨true, rfl, iteF ?_⟩⟩
  ·obtain ⟨k, hk, rfl⟩ := List.mem_map.mp hz
   exact ok.nk k hk
  ·rw [List.length_map]; have := ok.k0; omega
  ·rw [List.length_map]; have := ok.k1; omega
  ·rw [List.length_map]; have := ok.k1; omega
  have S1 := S.same s1
  refine ⟨.ref ft, rfl, la, _, rfl, .inl (hL H1), .ref kt, rfl, kt, kkv ks, rfl, .inl S1.kd, ?_, fun p np => ?_⟩
  ·show ([V.str "number", V.str "text"] ++ (dkeys (kkv ks) ++ [])).length ≤ sizeLine
   rw [List.length_append, List.length_append, dkeys_len, show (kkv ks).length = ks.length from List.length_map ..]
   exact Nat.le_trans (show 2 + (ks.length + 0) ≤ 1000 by have := ok.k1; omega) (by decide)
  have el : ([V.str "number", V.str "text"] ++ (dkeys (kkv ks) ++ [])) = (LV ++ ks.map (fun k : KRow => k.nm)).map V.str := by
   rw [dkeys_k, List.append_nil, List.map_append]
   rfl
  refine ⟨ft, p, fkvs fs, fs.map (·.nm), LV ++ ks.map (fun k : KRow => k.nm), 0, 3, rfl, by rw [upd_ne (ne_of_none S1.fd np)]; exact S1.fd, fkvs_keys fs, fun z hz => ⟨?_, ?_⟩, Int.natCast_nonneg _, ?_, ?_, .inl (SqL.of ?_), fun H2 s2 => ⟨true, rfl, iteF ?_⟩⟩
  ·obtain ⟨k, hk, rfl⟩ := List.mem_map.mp hz
   exact ok.nf k hk
  ·intro m
   rcases List.mem_append.mp m with m | m
   ·exact ok.lv (List.mem_append_right _ (List.mem_append_left _ hz)) m
   ·exact ok.kfu m (List.mem_append_left _ hz)
  ·rw [List.length_map]; have := ok.f1; omega
  ·rw [List.length_map]; have := ok.f1; omega
  ·rw [← el]
   exact upd_same
  have sm2 : Same H H2 := s1.trans ((same_new np).trans s2)
  have S2 := S.same sm2
  refine ⟨.ref ut, rfl, la, _, rfl, .inl (hL H2), .ref kt, rfl, kt, kkv ks, rfl, .inl S2.kd, .ref ft, rfl, ft, fkvs fs, rfl, .inl S2.fd, ?_, fun p2 np2 => ?_⟩
  ·show ([V.str "number", V.str "text"] ++ (dkeys (kkv ks) ++ (dkeys (fkvs fs) ++ []))).length ≤ sizeLine
   rw [List.length_append, List.length_append, List.length_append, dkeys_len, dkeys_len, show (kkv ks).length = ks.length from List.length_map .., show (fkvs fs).length = fs.length from List.length_map ..]
   exact Nat.le_trans (show 2 + (ks.length + (fs.length + 0)) ≤ 1000 by have := ok.k1; have := ok.f1; omega) (by decide)
  have el2 : ([V.str "number", V.str "text"] ++ (dkeys (kkv ks) ++ (dkeys (fkvs fs) ++ []))) = (LV ++ (ks.map (fun k : KRow => k.nm) ++ fs.map (fun k : FRow => k.nm))).map V.str := by
   rw [dkeys_k, dkeys_f, List.append_nil, List.map_append, List.map_append]
   rfl
  refine ⟨ut, p2, ukv us, us.map (·.nm), LV ++ (ks.map (fun k : KRow => k.nm) ++ fs.map (fun k : FRow => k.nm)), 0, 3, rfl, by rw [upd_ne (ne_of_none S2.ud np2)]; exact S2.ud, ukv_keys us, fun z hz => ⟨?_, ?_⟩, Int.natCast_nonneg _, ?_, ?_, .inl (SqL.of ?_), fun H3 s3 => ⟨true, rfl, iteF ?_⟩⟩
  ·obtain ⟨k, hk, rfl⟩ := List.mem_map.mp hz
   exact ok.nu k hk
  ·intro m
   rcases List.mem_append.mp m with m | m
   ·exact ok.lv (List.mem_append_right _ (List.mem_append_right _ hz)) m
   ·rcases List.mem_append.mp m with m | m
    ·exact ok.kfu m (List.mem_append_right _ hz)
    ·exact ok.fu m hz
  ·rw [List.length_map]; have := ok.u1; omega
  ·rw [List.length_map]; have := ok.u1; omega
  ·rw [← el2]
   exact upd_same
  exact q _ (sm2.trans ((same_new np2).trans s3))
def spCheckSchema (K : PySem.W.Frag) : Sp := fun vs H Q _ => ∃ (kt ft ut : Addr) (ks : List KRow) (fs : List FRow) (us : List URow) (root : Str), vs = [.ref kt, .ref ft, .ref ut, .str root] ∧ SchAt H kt ft ut ks fs us ∧ SchOk ks fs us root ∧ ∀ H', Same H H' → Q .non H'
theorem ok_check_schema {f f1 f2 f3 f4 f5 : Addr} {fd fd1 fd2 fd3 fd4 fd5 : FuncData} (D : Df K mg "check_schema" s_check_schema f fd ["kinds", "faces", "unions", "root"]) (D_check_names : Df K mg "check_names" s_check_names f1 fd1 ["kinds", "faces", "unions"])
  (D_is_kind : Df K mg "is_kind" s_is_kind f2 fd2 ["worth", "faces", "bases"]) (D_is_face : Df K mg "is_face" s_is_face f3 fd3 ["name", "fields", "kinds", "bases"]) (D_is_union : Df K mg "is_union" s_is_union f4 fd4 ["worth", "kinds"]) (D_is_key : Df K mg "is_key" s_is_key f5 fd5 ["name", "table"])
  (T : Nms mg) (C : Cst K mg) (G_check_names : FnOk P w K mg base CX0 3 f1 fd1 ["kinds", "faces", "unions"] (spCheck K)) (G_is_kind : FnOk P w K mg base CX0 7 f2 fd2 ["worth", "faces", "bases"] (spIsKind K))
  (G_is_face : FnOk P w K mg base CX0 7 f3 fd3 ["name", "fields", "kinds", "bases"] (spIsFace K)) (G_is_union : FnOk P w K mg base CX0 3 f4 fd4 ["worth", "kinds"] spIsUnion) (G_is_key : FnOk P w K mg base CX0 1 f5 fd5 ["name", "table"] (spIsKey K)) :
  FnOk P w K mg base CX0 8 f fd ["kinds", "faces", "unions", "root"] (spCheckSchema K) := by
 obtain ⟨la, g_L, hL⟩ := C.LEAVES
 refine D.F.ok sc_check_schema (fun vs H Q E h => ?_) (fun cdv A outer s H vs Q E hr h => ?_)
 ·obtain ⟨kt, ft, ut, ks, fs, us, root, rfl, _⟩ := h
  rfl
 ·obtain ⟨kt, ft, ut, ks, fs, us, root, rfl, S, ok, q⟩ := h
  have hu := hu_of hr
  refine ⟨_, (pss_cons (ps_expr (pe_call G_check_names (hr.mono (by decide)) (by rfl) D_check_names.g D_check_names.F.kp D_check_names.b .nil pass0 (pa_cons (pv 0) (pa_cons (pv 1) (pa_cons (pv 2) pa_nil)))))
   (pss_cons (ps_set (i := 4) sc_check_schema.nd rfl (.inl rfl) (pe_lst (pa_star (pe_glob (v := .ref la) (by rfl) g_L rfl) (pa_starD rfl (pv 0) (pa_starD rfl (pv 1) (pa_starD rfl (pv 2) pa_nil))))))
   (pss_cons (ps_for PassesOwn.never rfl (pi_list (pe_callB (call_sortedD rfl) (by rfl) T.n_sorted (by decide +kernel) (pa_cons (pv 0) pa_nil))) (pg_name (i := 5) sc_check_schema.nd rfl (.inl rfl))
    (pss_one (ps_if (pt_not (pt_val (pe_call G_is_kind (hr.mono (by decide)) (by rfl) D_is_kind.g D_is_kind.F.kp D_is_kind.b .nil pass0 (pa_cons (pe_dget hu (pv 0) (pv 5) (fun _ _ => rfl)) (pa_cons (pv 1) (pa_cons (pv 4) pa_nil))))))
     (pss_one ps_never)
     pss_nil)))
   (pss_cons (ps_for PassesOwn.never rfl (pi_list (pe_callB (call_sortedD rfl) (by rfl) T.n_sorted (by decide +kernel) (pa_cons (pv 1) pa_nil))) (pg_name (i := 5) sc_check_schema.nd rfl (.inl rfl))
    (pss_one (ps_if (pt_not (pt_val (pe_call G_is_face (hr.mono (by decide)) (by rfl) D_is_face.g D_is_face.F.kp D_is_face.b .nil pass0 (pa_cons (pv 5) (pa_cons (pe_dget hu (pv 1) (pv 5) (fun _ _ => rfl)) (pa_cons (pv 0) (pa_cons (pv 4) pa_nil)))))))
     (pss_one ps_never)
     pss_nil)))
   (pss_cons (ps_for PassesOwn.never rfl (pi_list (pe_callB (call_sortedD rfl) (by rfl) T.n_sorted (by decide +kernel) (pa_cons (pv 2) pa_nil))) (pg_name (i := 5) sc_check_schema.nd rfl (.inl rfl))
    (pss_one (ps_if (pt_not (pt_val (pe_call G_is_union (hr.mono (by decide)) (by rfl) D_is_union.g D_is_union.F.kp D_is_union.b .nil pass0 (pa_cons (pe_dget hu (pv 2) (pv 5) (fun _ _ => rfl)) (pa_cons (pv 0) pa_nil)))))
     (pss_one ps_never)
     pss_nil)))
   (pss_one (ps_if (pt_not (pt_val (pe_call G_is_key (hr.mono (by decide)) (by rfl) D_is_key.g D_is_key.F.kp D_is_key.b .nil pass0 (pa_cons (pv 3) (pa_cons (pv 0) pa_nil)))))
    (pss_one ps_never)
    pss_nil))))))), ?_⟩
  refine ⟨.ref kt, rfl, .ref ft, rfl, .ref ut, rfl, kt, ft, ut, ks, fs, us, root, rfl, S, ok, fun H1 s1 => ?_⟩
  have S1 := S.same s1
  have k1 := ok.k1
  have f1' := ok.f1
  have u1' := ok.u1
  refine ⟨la, _, rfl, .inl (hL H1), .ref kt, rfl, kt, kkv ks, rfl, .inl S1.kd, .ref ft, rfl, ft, fkvs fs, rfl, .inl S1.fd, .ref ut, rfl, ut, ukv us, rfl, .inl S1.ud, ?_, fun bs nb => ?_⟩
  ·show ([V.str "number", V.str "text"] ++ (dkeys (kkv ks) ++ (dkeys (fkvs fs) ++ (dkeys (ukv us) ++ [])))).length ≤ sizeLine
   rw [List.length_append, List.length_append, List.length_append, List.length_append, dkeys_len, dkeys_len, dkeys_len, show (kkv ks).length = ks.length from List.length_map .., show (fkvs fs).length = fs.length from List.length_map .., show (ukv us).length = us.length from List.length_map ..]
   exact Nat.le_trans (show 2 + (ks.length + (fs.length + (us.length + 0))) ≤ 1000 by omega) (by decide)
  have el : ([V.str "number", V.str "text"] ++ (dkeys (kkv ks) ++ (dkeys (fkvs fs) ++ (dkeys (ukv us) ++ [])))) = (bsOf ks fs us).map V.str := by
   rw [dkeys_k, dkeys_f, dkeys_u]
   unfold bsOf
   rw [List.append_nil, List.map_append, List.map_append, List.map_append]
   rfl
  have sm2 : Same H (upd H1 bs (.lst ([V.str "number", V.str "text"] ++ (dkeys (kkv ks) ++ (dkeys (fkvs fs) ++ (dkeys (ukv us) ++ [])))))) := s1.trans (same_new nb)
  have hb2 : (upd H1 bs (.lst ([V.str "number", V.str "text"] ++ (dkeys (kkv ks) ++ (dkeys (fkvs fs) ++ (dkeys (ukv us) ++ [])))))) bs = some (.lst ((bsOf ks fs us).map V.str)) := by rw [← el]; exact upd_same
  generalize upd H1 bs (.lst ([V.str "number", V.str "text"] ++ (dkeys (kkv ks) ++ (dkeys (fkvs fs) ++ (dkeys (ukv us) ++ []))))) = H2 at sm2 hb2
  refine ⟨.ref kt, rfl, kt, kkv ks, ks.map (·.nm), rfl, .inl (sm2 _ _ S.kd), kkv_keys ks, by rw [List.length_map]; omega, fun ys p pm so np => ⟨p, rfl, ⟨_, SqL.of upd_same⟩, ?_⟩⟩
  refine for_list (xs := ys.map V.str) (fun i σ H' => ∃ y, σ = [some (.ref kt), some (.ref ft), some (.ref ut), some (.str root), some (.ref bs), y] ∧ Same (upd H2 p (.lst (ys.map V.str))) H') ⟨none, rfl, Same.refl _⟩ (fun i σ H' _ h => by obtain ⟨y, _, sm⟩ := h; exact SqL.of (sm _ _ upd_same)) ?_ ?_
  ·rintro i x σ H3 ex ⟨y, rfl, sm⟩
   obtain ⟨z, hz, rfl⟩ := List.mem_map.mp (List.mem_of_getElem? ex)
   obtain ⟨k, hk, rfl⟩ := List.mem_map.mp (pm.mem_iff.mp hz)
   have smA : Same H H3 := (sm2.trans (same_new np)).trans sm
   have S3 := S.same smA
   refine ⟨.ref kt, rfl, .str k.nm, rfl, kt, _, rfl, .inl ⟨kkv ks, .inr k.nm, .inl S3.kd, rfl, (kkv_val ok.ndk hk).symm⟩, .ref ft, rfl, .ref bs, rfl, k, ft, bs, fkvs fs, bsOf ks fs us, rfl, S3.ka k hk, S3.fd, (ok.kf k hk).1, by have := (ok.kf k hk).2.2; omega, fun z hz => fkvs_some ok.ndf ((ok.kf k hk).2.1 z hz), ok.kd k hk, SqL.of (((same_new np).trans sm) _ _ hb2), fun H4 s4 => ⟨true, rfl, iteF ⟨_, rfl, sm.trans s4⟩⟩⟩
  ·rintro σ H3 ⟨y, rfl, sm⟩
   have sm3 : Same H2 H3 := (same_new np).trans sm
   have S3 := S.same (sm2.trans sm3)
   refine ⟨.ref ft, rfl, ft, fkvs fs, fs.map (·.nm), rfl, .inl S3.fd, fkvs_keys fs, by rw [List.length_map]; omega, fun ys p pm so np => ⟨p, rfl, ⟨_, SqL.of upd_same⟩, ?_⟩⟩
   refine for_list (xs := ys.map V.str) (fun i σ H' => ∃ y, σ = [some (.ref kt), some (.ref ft), some (.ref ut), some (.str root), some (.ref bs), y] ∧ Same (upd H3 p (.lst (ys.map V.str))) H') ⟨y, rfl, Same.refl _⟩ (fun i σ H' _ h => by obtain ⟨y, _, sm⟩ := h; exact SqL.of (sm _ _ upd_same)) ?_ ?_
   ·rintro i x σ H4 ex ⟨y, rfl, sm⟩
    obtain ⟨z, hz, rfl⟩ := List.mem_map.mp (List.mem_of_getElem? ex)
    obtain ⟨k, hk, rfl⟩ := List.mem_map.mp (pm.mem_iff.mp hz)
    have smA : Same H H4 := ((sm2.trans sm3).trans (same_new np)).trans sm
    have S4 := S.same smA
    refine ⟨.str k.nm, rfl, .ref ft, rfl, .str k.nm, rfl, ft, _, rfl, .inl ⟨fkvs fs, .inr k.nm, .inl S4.fd, rfl, (fkvs_val ok.ndf hk).symm⟩, .ref kt, rfl, .ref bs, rfl, kt, bs, k, ks, bsOf ks fs us, rfl, S4.fa k hk, ok.fd k hk, S4.kd, S4.ka, ok.ndk, ok.k1, fun k' hk' => (ok.kd k' hk').nd, ok.fk k hk, ok.ff k hk, SqL.of (((sm3.trans (same_new np)).trans sm) _ _ hb2), fun H5 s5 => ⟨true, rfl, iteF ⟨_, rfl, sm.trans s5⟩⟩⟩
   ·rintro σ H4 ⟨y, rfl, sm⟩
    have sm4 : Same H3 H4 := (same_new np).trans sm
    have S4 := S.same ((sm2.trans sm3).trans sm4)
    refine ⟨.ref ut, rfl, ut, ukv us, us.map (·.nm), rfl, .inl S4.ud, ukv_keys us, by rw [List.length_map]; omega, fun ys p pm so np => ⟨p, rfl, ⟨_, SqL.of upd_same⟩, ?_⟩⟩
    refine for_list (xs := ys.map V.str) (fun i σ H' => ∃ y, σ = [some (.ref kt), some (.ref ft), some (.ref ut), some (.str root), some (.ref bs), y] ∧ Same (upd H4 p (.lst (ys.map V.str))) H') ⟨y, rfl, Same.refl _⟩ (fun i σ H' _ h => by obtain ⟨y, _, sm⟩ := h; exact SqL.of (sm _ _ upd_same)) ?_ ?_
    ·rintro i x σ H5 ex ⟨y, rfl, sm⟩
     obtain ⟨z, hz, rfl⟩ := List.mem_map.mp (List.mem_of_getElem? ex)
     obtain ⟨k, hk, rfl⟩ := List.mem_map.mp (pm.mem_iff.mp hz)
     have smA : Same H H5 := (((sm2.trans sm3).trans sm4).trans (same_new np)).trans sm
     have S5 := S.same smA
     obtain ⟨n1, n2, n3, n4⟩ := ok.ud k hk
     refine ⟨.ref ut, rfl, .str k.nm, rfl, ut, _, rfl, .inl ⟨ukv us, .inr k.nm, .inl S5.ud, rfl, (ukv_val ok.ndu hk).symm⟩, .ref kt, rfl, k.t, kt, kkv ks, k.ms, rfl, S5.ua k hk, S5.kd, n1, n2, n3, fun z hz => kkv_some ok.ndk (n4 z hz), fun H6 s6 => ⟨true, rfl, iteF ⟨_, rfl, sm.trans s6⟩⟩⟩
    ·rintro σ H5 ⟨y, rfl, sm⟩
     have smA : Same H H5 := (((sm2.trans sm3).trans sm4).trans (same_new np)).trans sm
     have S5 := S.same smA
     refine ⟨.str root, rfl, .ref kt, rfl, .str root, kt, rfl, .inl ⟨root, rfl, .inr ⟨kkv ks, .inl S5.kd, true, ?_, iteF (q _ smA)⟩⟩⟩
     rw [kkv_some ok.ndk ok.rt]
end
end NW
namespace NW
open PySem PySem.Spec PyProof.Rows L2
section
variable {X : Cx}
def rSortedTup (K : PySem.W.Frag) : List V → Hp → VK → Prop := fun xs H Q => ∃ (a : Addr) (ks : List Str), xs = [.ref a] ∧ SqT K H a (ks.map V.str) ∧ ks.length < 64 ∧
 ∀ ys p, ys.Perm ks → sortedS ys = true → H p = none → Q (.ref p) (upd H p (.lst (ys.map V.str)))
theorem strs_vals : ∀ {ks : List Str} {us : List Value}, Vals (ks.map V.str) us → StrsAre us ks
 | [], _, .nil => .nil
 | k :: ks, _, .cons ⟨t, e⟩ r => by
  subst e
  exact .cons k t (strs_vals r)
theorem call_sortedTup (K : PySem.W.Frag) (hK : X.K = K := by rfl) : CallR X (.builtin "sorted") (rSortedTup K) := by
 subst hK
 intro pins s σ H xs us Q I r q
 obtain ⟨a, ks, rfl, ha, few, q⟩ := q
 rw [Vals.ref1 r]
 obtain ⟨its, rv, pl, big⟩ := I.tuple ha
 obtain ⟨o, ho, hc, n, hd⟩ := pl
 have hlen : its.length = ks.length := by
  have e := rv.length
  rw [List.length_map] at e
  exact e.symm
 have hS : StrsAre its ks := strs_vals rv
 refine Calls.call_function_entry PyProof.Rows.kind_sorted PyProof.Rows.plain_sorted PyProof.Rows.entry_sorted (PyProof.Rows.args_sorted1 _) ?_
 unfold Builtin.«sorted»
 refine wpAny_bind (m := checkCount "sorted" 1 1 _) (wpAny_pure ?_)
 have room : its.toArray.size ≤ sizeLine := by rw [List.size_toArray, hlen, sizeLine_eq]; omega
 refine wpAny_bind (wpAny_collect_seq a (.inr rfl) ho hc hd (fun g kept => ?_) room)
 have el : its.toArray.toList = its := by simp
 rw [el]
 have J : Inv X pins σ H { s with heap := g } := I.kept (t' := s.toks) kept
 refine wpAny_bind (wpAny_newList ?_ (by rw [hlen, sizeLine_eq]; omega))
 have at_ : (g.push (seqObj "list" its.toArray 0)).get? g.objs.size = some (seqObj "list" its.toArray 0) := Heap.get?_push_size _ rfl
 show wpAny _ _ _ _ _ { s with heap := g.push (seqObj "list" its.toArray 0) }
 refine wpAny_bind (wpAny_holding (wpAny_call_entry PyProof.Rows.slot_list_sort ⟨_, at_, rfl⟩ PyProof.Rows.entry_list_sort (list_sort_treeK strKind_oneLt (s := { s with heap := g.push (seqObj "list" its.toArray 0) }) at_ hS.keysOf
  (fun v₁ v₂ rest e => keyKind_strs (by rw [← e]; exact hS)) (by rw [hlen]; exact few) fun st' hp hs => ⟨_, rfl, ?_⟩) (PyProof.Rows.args_list_sort _)))
 obtain ⟨ys, z1, z2, z3⟩ := sorted_out_str hS hp hs
 obtain ⟨e', he'⟩ := PyProof.Rows.sortedHeap_at (vs := its) (out := (arrOf st').map (·.2)) at_
 have fits : (ys.map V.str).length ≤ sizeLine := by
  rw [List.length_map, z2.length_eq, sizeLine_eq]
  omega
 refine wpAny_pure ⟨_, rfl, .ref g.objs.size, upd H g.objs.size (.lst (ys.map V.str)), J.laid (t' := s.toks) (fun b u e => ?_) (Nat.le_refl _) (show ObjOk X.prog X.w _ _ _ (.lst (ys.map V.str)) from ⟨fits, ((arrOf st').map (·.2)).toList, e', vals_of_strs z1, by rw [Array.toArray_toList]; exact he'⟩), rfl, q ys _ z2 z3 (J.hok.fresh (Nat.le_refl _))⟩
 have below : b < g.objs.size := Heap.lt_size e
 rw [PyProof.Rows.sortedHeap_old (Nat.ne_of_lt below) (by rw [size_push']; exact Nat.lt_succ_of_lt below)]
 exact Heap.get?_push_of_some _ e
theorem call_tuple_ofK (K : PySem.W.Frag) (h : X.K = K := by rfl) : CallR X (.type "tuple") (fun vs H Q => ∃ (p : Addr) (xs : List V), vs = [.ref p] ∧ ((SqL K H p xs ∧ ∀ l, H l = none → Q (.ref l) (upd H l (.tup xs))) ∨ (SqT K H p xs ∧ Q (.ref p) H))) := by
 subst h
 intro pins s σ H vs us Q I r q
 exact call_tuple_of pins s σ H vs us Q I r q
end
theorem dc_it {J : It} {n : Nat} {G : Hp → Prop} {Y : Nat → Hp → V → Hp → Prop} (w : Walk J n G Y) {g : TG} {tt : TT} {tk tv : TE} {vs : List Nat} {σ : L2.St} {H1 : Hp} {Da : Addr} {Qd : Hp → Prop} (Pv : Nat → Hp → Prop)
  (start : Pv 0 (upd H1 Da (.dK []))) (hG : ∀ i H, i ≤ n → Pv i H → G H)
  (turn : ∀ i x H H', i < n → Pv i H → Y i H x H' → g x (wipe σ vs) H' fun σ2 H2 => wipe σ2 vs = wipe σ vs ∧ tt σ2 H2 fun b H3 =>
   if b = true then tk σ2 H3 fun y H4 => tv σ2 H4 fun z H5 => ∃ kvs k, y = kV k ∧ H5 Da = some (.dK kvs) ∧ kvs.length < sizeLine ∧ Pv (i + 1) (upd H5 Da (.dK (putK kvs k z))) else Pv (i + 1) H3) (fin : ∀ H, Pv n H → Qd H) :
  ∃ W : Nat → Nat → Hp → Prop, (∃ m, W 0 m (upd H1 Da (.dK []))) ∧ ∀ i m H, W i m H →
   (J.stop i H ∧ Qd H) ∨ (J.go i H ∧ ∃ Nx : Hp → Prop, (∀ H', Nx H' → ∃ m', m' < m ∧ W (i + 1) m' H') ∧ ∀ x H', J.yld i H x H' → g x (wipe σ vs) H' fun σ2 H2 => wipe σ2 vs = wipe σ vs ∧ tt σ2 H2 fun b H3 =>
    if b = true then tk σ2 H3 fun y H4 => tv σ2 H4 fun z H5 => ∃ kvs k, y = kV k ∧ H5 Da = some (.dK kvs) ∧ kvs.length < sizeLine ∧ Nx (upd H5 Da (.dK (putK kvs k z))) else Nx H3) := by
 refine ⟨fun i m H => i + m = n ∧ Pv i H, ⟨n, Nat.zero_add n, start⟩, fun i m H h => ?_⟩
 obtain ⟨e, p⟩ := h
 have q := hG i H (by omega) p
 cases m with
 | zero =>
  have e2 : i = n := by omega
  subst e2
  exact .inl ⟨w.stops H q, fin H p⟩
 | succ m => exact .inr ⟨w.goes i H (by omega) q, Pv (i + 1), fun H' p' => ⟨m, Nat.lt_succ_self m, by omega, p'⟩, fun x H' y => turn i x H H' (by omega) p (w.yields i H x H' (by omega) q y)⟩
end NW
namespace NW
open PySem PySem.Spec PyProof.Rows L2
theorem cutE {c : TT} {t u : TS} {D : Ends} {σ : L2.St} {H : Hp} (G : L2.St → Hp → Prop) (he : ∀ σ' H', G σ' H' → u D σ' H') (h : (∀ σ' H', G σ' H' → u D σ' H') → tIfS c t u D σ H) : tIfS c t u D σ H := h he
end NW
namespace NW
open PySem PySem.Spec PyProof.Rows L2
open TL (tl)
open StX (pa_star)
abbrev s_Schema_init : Stmt := inClass (topS 56) 0
abbrev N_Schema_init : List Str := ["self", "kinds", "faces", "unions", "root", "name"]
theorem sc_Schema_init : FnScope N_Schema_init ["self", "kinds", "faces", "unions", "root"] (defScope s_Schema_init) := ⟨rfl, rfl, rfl, by decide +kernel, rfl, by decide +kernel, by decide +kernel⟩
structure ClT (K : PySem.W.Frag) (C : Addr) : Prop where
 cl : Cls K C
 nk : NoAttr K C "kind_table"
 nf : NoAttr K C "face_table"
 nu : NoAttr K C "union_table"
 nr : NoAttr K C "root"
theorem n1 : ¬ (("face_table" : Str) = "kind_table") := by decide +kernel
theorem n2 : ¬ (("union_table" : Str) = "kind_table") := by decide +kernel
theorem n3 : ¬ (("root" : Str) = "kind_table") := by decide +kernel
theorem n4 : ¬ (("union_table" : Str) = "face_table") := by decide +kernel
theorem n5 : ¬ (("root" : Str) = "face_table") := by decide +kernel
theorem n6 : ¬ (("root" : Str) = "union_table") := by decide +kernel
def pfs (a b c : Addr) (z : Str) : List (Str × V) := [("kind_table", V.ref a), ("face_table", V.ref b), ("union_table", V.ref c), ("root", V.str z)]
theorem pf1 (a : Addr) : putF "kind_table" (.ref a) [] = [(("kind_table" : Str), V.ref a)] := rfl
theorem pf2 (a b : Addr) : putF "face_table" (.ref b) [(("kind_table" : Str), V.ref a)] = [(("kind_table" : Str), V.ref a), ("face_table", V.ref b)] := by
 show (if ("kind_table" : Str) = "face_table" then _ else _) = _
 rw [if_neg (fun e => n1 e.symm)]
 rfl
theorem pf3 (a b c : Addr) : putF "union_table" (.ref c) [(("kind_table" : Str), V.ref a), ("face_table", V.ref b)] = [(("kind_table" : Str), V.ref a), ("face_table", V.ref b), ("union_table", V.ref c)] := by
 show (if ("kind_table" : Str) = "union_table" then _ else _ :: (if ("face_table" : Str) = "union_table" then _ else _)) = _
 rw [if_neg (fun e => n2 e.symm), if_neg (fun e => n4 e.symm)]
 rfl
theorem pf4 (a b c : Addr) (z : Str) : putF "root" (.str z) [(("kind_table" : Str), V.ref a), ("face_table", V.ref b), ("union_table", V.ref c)] = pfs a b c z := by
 show (if ("kind_table" : Str) = "root" then _ else _ :: (if ("face_table" : Str) = "root" then _ else _ :: (if ("union_table" : Str) = "root" then _ else _))) = _
 rw [if_neg (fun e => n3 e.symm), if_neg (fun e => n5 e.symm), if_neg (fun e => n6 e.symm)]
 rfl
theorem lkk (a b c : Addr) (z : Str) : (pfs a b c z).lookup ("kind_table" : Str) = some (.ref a) := by simp [pfs, List.lookup]
theorem lkf (a b c : Addr) (z : Str) : (pfs a b c z).lookup ("face_table" : Str) = some (.ref b) := by
 have h1 : (("face_table" : Str) == "kind_table") = false := beq_eq_false_iff_ne.mpr n1
 simp [pfs, List.lookup, h1]
theorem lku (a b c : Addr) (z : Str) : (pfs a b c z).lookup ("union_table" : Str) = some (.ref c) := by
 have h1 : (("union_table" : Str) == "kind_table") = false := beq_eq_false_iff_ne.mpr n2
 have h2 : (("union_table" : Str) == "face_table") = false := beq_eq_false_iff_ne.mpr n4
 simp [pfs, List.lookup, h1, h2]
theorem lkr (a b c : Addr) (z : Str) : (pfs a b c z).lookup ("root" : Str) = some (.str z) := by
 have h1 : (("root" : Str) == "kind_table") = false := beq_eq_false_iff_ne.mpr n3
 have h2 : (("root" : Str) == "face_table") = false := beq_eq_false_iff_ne.mpr n5
 have h3 : (("root" : Str) == "union_table") = false := beq_eq_false_iff_ne.mpr n6
 simp [pfs, List.lookup, h1, h2, h3]
theorem lkn (a b c : Addr) (z : Str) {m : Str} (h1 : ¬ m = "kind_table") (h2 : ¬ m = "face_table") (h3 : ¬ m = "union_table") (h4 : ¬ m = "root") : (pfs a b c z).lookup m = none := by
 have e1 := beq_eq_false_iff_ne.mpr h1
 have e2 := beq_eq_false_iff_ne.mpr h2
 have e3 := beq_eq_false_iff_ne.mpr h3
 have e4 := beq_eq_false_iff_ne.mpr h4
 simp [pfs, List.lookup, e1, e2, e3, e4]
def RelK (ks ks' : List KRow) : Prop := ks'.length = ks.length ∧ ∀ (i : Nat) (k k' : KRow), ks[i]? = some k → ks'[i]? = some k' → k'.nm = k.nm ∧ k'.fcs.Perm k.fcs ∧ sortedS k'.fcs = true ∧ k'.fds = k.fds
def RelF (ks ks' : List FRow) : Prop := ks'.length = ks.length ∧ ∀ (i : Nat) (k k' : FRow), ks[i]? = some k → ks'[i]? = some k' → k'.nm = k.nm ∧ k'.fds = k.fds
def RelU (ks ks' : List URow) : Prop := ks'.length = ks.length ∧ ∀ (i : Nat) (k k' : URow), ks[i]? = some k → ks'[i]? = some k' → k'.nm = k.nm ∧ k'.ms.Perm k.ms ∧ sortedS k'.ms = true
def BuiltAt (C : Addr) (H : Hp) (x : Addr) (ks : List KRow) (fs : List FRow) (us : List URow) (root : Str) : Prop :=
 ∃ dx kt ft ut ks' fs' us', H x = some (.ins C dx (pfs kt ft ut root)) ∧ SchAt H kt ft ut ks' fs' us' ∧ RelK ks ks' ∧ RelF fs fs' ∧ RelU us us'
theorem rel_snoc {α : Type} {ks rs : List α} {R : α → α → Prop} {i : Nat} {k r : α} (e : ks[i]? = some k) (hl : rs.length = i) (h : ∀ (j : Nat) (a b : α), ks[j]? = some a → rs[j]? = some b → R a b) (hr : R k r) : ∀ (j : Nat) (a b : α), ks[j]? = some a → (rs ++ [r])[j]? = some b → R a b := by
 intro j a b ea eb
 by_cases hj : j < rs.length
 ·rw [List.getElem?_append_left hj] at eb
  exact h j a b ea eb
 ·have hj2 : j = i := by
   have := (List.getElem?_eq_some_iff.mp eb).1
   rw [List.length_append, List.length_singleton] at this
   omega
  subst hj2
  rw [List.getElem?_append_right (by omega), hl, Nat.sub_self] at eb
  cases eb
  rw [e] at ea
  cases ea
  exact hr
theorem rel_names {α : Type} {f : α → Str} {ks rs : List α} {i : Nat} (hl : rs.length = i) (hi : i ≤ ks.length) (h : ∀ (j : Nat) (a b : α), ks[j]? = some a → rs[j]? = some b → f b = f a) : rs.map f = (ks.take i).map f := by
 refine List.ext_getElem? fun j => ?_
 rw [List.getElem?_map, List.getElem?_map]
 by_cases hj : j < i
 ·have h1 : j < rs.length := by omega
  have h2 : j < ks.length := by omega
  rw [List.getElem?_eq_getElem h1, List.getElem?_take_of_lt hj, List.getElem?_eq_getElem h2]
  show some (f rs[j]) = some (f ks[j])
  rw [h j _ _ (List.getElem?_eq_getElem h2) (List.getElem?_eq_getElem h1)]
 ·rw [List.getElem?_eq_none (by omega), List.getElem?_eq_none (by rw [List.length_take]; omega)]
theorem name_new {α : Type} {f : α → Str} {ks : List α} (nd : (ks.map f).Nodup) {i : Nat} {k : α} (e : ks[i]? = some k) : f k ∉ (ks.take i).map f := by
 intro m
 obtain ⟨a, ha, ea⟩ := List.mem_map.mp m
 obtain ⟨j, hj, ej⟩ := List.getElem_of_mem ha
 rw [List.length_take] at hj
 rw [List.getElem_take] at ej
 have hi := (List.getElem?_eq_some_iff.mp e)
 obtain ⟨hi1, hi2⟩ := hi
 have h1 : (ks.map f)[j]'(by rw [List.length_map]; omega) = (ks.map f)[i]'(by rw [List.length_map]; omega) := by
  rw [List.getElem_map, List.getElem_map, ej, hi2, ea]
 have := (List.getElem_inj nd).mp h1
 omega
theorem put_snoc {α : Type} {f : α → Str} {g : α → V} {rs : List α} {r : α} (h : f r ∉ rs.map f) : putK (rs.map fun a => ((Sum.inr (f a) : Key), g a)) (Sum.inr (f r)) (g r) = (rs ++ [r]).map fun a => ((Sum.inr (f a) : Key), g a) := by
 rw [putK_new _ (valV_out h), List.map_append]
 rfl
theorem KRow.At.put {H : Hp} {k : KRow} {Da : Addr} {kvs : List (Key × V)} {o : HO} (hD : H Da = some (.dK kvs)) (n : k.da ≠ Da) (h : k.At H) : k.At (upd H Da o) :=
 ⟨by rw [upd_ne (ne_of h.t hD (by intro z; cases z))]; exact h.t, by rw [upd_ne (ne_of h.f hD (by intro z; cases z))]; exact h.f, by rw [upd_ne n]; exact h.d.at_, fun f m => (h.d.sh f m).gr (xs := []) (.inr ⟨_, hD⟩) Gr.box⟩
theorem FldAt.put {H : Hp} {d : Addr} {fs : List Fld} {Da : Addr} {kvs : List (Key × V)} {o : HO} (hD : H Da = some (.dK kvs)) (n : d ≠ Da) (h : FldAt H d fs) : FldAt (upd H Da o) d fs :=
 ⟨by rw [upd_ne n]; exact h.at_, fun f m => (h.sh f m).gr (xs := []) (.inr ⟨_, hD⟩) Gr.box⟩
theorem Oth.frz {H : Hp} {b : Addr} {o : Obj} {u : HO} (h : H b = some (.frz o u)) : Oth H b := ⟨_, h, (by intro _ z; cases z), (by intro _ z; cases z)⟩
theorem gr_x {H H' : Hp} {x : Addr} (s : Same H H') : Gr x H H' := fun a o _ e => s a o e
theorem fkvs_at {fs : List FRow} {i : Nat} {k : Key} {v : V} (e : (fkvs fs)[i]? = some (k, v)) : ∃ r, fs[i]? = some r ∧ k = Sum.inr r.nm ∧ v = .ref r.da := by
 unfold fkvs at e
 rw [List.getElem?_map] at e
 cases h : fs[i]? with
 | none => rw [h] at e; cases e
 | some f =>
  rw [h] at e
  cases e
  exact ⟨f, rfl, rfl, rfl⟩
theorem ukv_at {us : List URow} {i : Nat} {k : Key} {v : V} (e : (ukv us)[i]? = some (k, v)) : ∃ r, us[i]? = some r ∧ k = Sum.inr r.nm ∧ v = .ref r.t := by
 unfold ukv at e
 rw [List.getElem?_map] at e
 cases h : us[i]? with
 | none => rw [h] at e; cases e
 | some f =>
  rw [h] at e
  cases e
  exact ⟨f, rfl, rfl, rfl⟩
section
variable {P : Program} {w : World} {K : PySem.W.Frag} {mg : Str → Option Value} {base : Heap}

def spInit (C : Addr) : Sp := fun vs H Q _ => ∃ (x dx kt ft ut : Addr) (ks : List KRow) (fs : List FRow) (us : List URow) (root : Str), vs = [.ref x, .ref kt, .ref ft, .ref ut, .str root] ∧ H x = some (.ins C dx []) ∧ SchAt H kt ft ut ks fs us ∧ SchOk ks fs us root ∧
 ∀ H', Gr x H H' → BuiltAt C H' x ks fs us root → Q .non H'
theorem ok_init {f f1 C : Addr} {fd fd1 : FuncData} (F : Fun K "__init__" "Schema.__init__" s_Schema_init f fd) (D_check_schema : Df K mg "check_schema" s_check_schema f1 fd1 ["kinds", "faces", "unions", "root"]) (T : Nms mg) (L : ClT K C)
  (G_check_schema : FnOk P w K mg base CX0 8 f1 fd1 ["kinds", "faces", "unions", "root"] (spCheckSchema K)) : FnOk P w K mg base CX0 9 f fd ["self", "kinds", "faces", "unions", "root"] (spInit C) := by
 refine F.ok sc_Schema_init (fun vs H Q E h => ?_) (fun cdv A outer s H vs Q E hr h => ?_)
 ·obtain ⟨x, dx, kt, ft, ut, ks, fs, us, root, rfl, _⟩ := h
  rfl
 ·obtain ⟨x, dx, kt, ft, ut, ks, fs, us, root, rfl, hx, S, ok, q⟩ := h
  have hu := hu_of hr
  refine ⟨_, (pss_cons (ps_expr (pe_call G_check_schema (hr.mono (by decide)) (by rfl) D_check_schema.g D_check_schema.F.kp D_check_schema.b .nil pass0 (pa_cons (pv 1) (pa_cons (pv 2) (pa_cons (pv 3) (pa_cons (pv 4) pa_nil))))))
   (pss_cons (ps_fld (pv 0) (pe_lock (pe_dc (own := [("name", 5)]) (g := (gName 5)) (tt := tYes) rfl sc_Schema_init.nd (pi_keys (pv 1)) (blkOk_by (own := [("name", 5)]) (N := N_Schema_init) (sc := defScope s_Schema_init) (by decide +kernel)) (fun _ _ _ _ _ => (pg_name (i := 5) sc_Schema_init.nd rfl (.inl rfl))) (fun _ _ _ _ _ => pts_nil) (fun _ _ _ _ _ => (pv 5)) (fun _ _ _ _ _ => (pe_tup (pa_cons (pe_callTy (call_tuple_ofK K) (by rfl) T.n_tuple (by decide +kernel) (pa_cons (pe_callB (call_sortedTup K) (by rfl) T.n_sorted (by decide +kernel) (pa_cons (pe_ix (ix_tupK K) (pe_dget hu (pv 1) (pv 5) (fun _ _ => rfl)) pe_int (fun _ _ => rfl)) pa_nil)) pa_nil)) (pa_cons (pe_callTy call_dictD (by rfl) T.n_dict (by decide +kernel) (pa_cons (pe_ix (ix_tupK K) (pe_dget hu (pv 1) (pv 5) (fun _ _ => rfl)) pe_int (fun _ _ => rfl)) pa_nil)) pa_nil)))))) rfl)
   (pss_cons (ps_fld (pv 0) (pe_lock (pe_dc (own := [("name", 5)]) (g := (gName 5)) (tt := tYes) rfl sc_Schema_init.nd (pi_keys (pv 2)) (blkOk_by (own := [("name", 5)]) (N := N_Schema_init) (sc := defScope s_Schema_init) (by decide +kernel)) (fun _ _ _ _ _ => (pg_name (i := 5) sc_Schema_init.nd rfl (.inl rfl))) (fun _ _ _ _ _ => pts_nil) (fun _ _ _ _ _ => (pv 5)) (fun _ _ _ _ _ => (pe_callTy call_dictD (by rfl) T.n_dict (by decide +kernel) (pa_cons (pe_dget hu (pv 2) (pv 5) (fun _ _ => rfl)) pa_nil))))) rfl)
   (pss_cons (ps_fld (pv 0) (pe_lock (pe_dc (own := [("name", 5)]) (g := (gName 5)) (tt := tYes) rfl sc_Schema_init.nd (pi_keys (pv 3)) (blkOk_by (own := [("name", 5)]) (N := N_Schema_init) (sc := defScope s_Schema_init) (by decide +kernel)) (fun _ _ _ _ _ => (pg_name (i := 5) sc_Schema_init.nd rfl (.inl rfl))) (fun _ _ _ _ _ => pts_nil) (fun _ _ _ _ _ => (pv 5)) (fun _ _ _ _ _ => (pe_callTy (call_tuple_ofK K) (by rfl) T.n_tuple (by decide +kernel) (pa_cons (pe_callB (call_sortedTup K) (by rfl) T.n_sorted (by decide +kernel) (pa_cons (pe_dget hu (pv 3) (pv 5) (fun _ _ => rfl)) pa_nil)) pa_nil))))) rfl)
   (pss_one (ps_fld (pv 0) (pv 4) rfl)))))), ?_⟩
  refine ⟨.ref kt, rfl, .ref ft, rfl, .ref ut, rfl, .str root, rfl, kt, ft, ut, ks, fs, us, root, rfl, S, ok, fun H1 s1 => ?_⟩
  have k1 := ok.k1
  have f1' := ok.f1
  have u1' := ok.u1
  have S1 := S.same s1
  have hx1 := s1 _ _ hx
  refine ⟨kt, .dK (kkv ks), S1.kd, trivial, fun od => ⟨.ref kt, rfl, kt, od, rfl, .inl ⟨kkv ks, upd_same, fun Da nD => ?_⟩⟩⟩
  have hkl : (kkv ks).length = ks.length := List.length_map ..
  refine dc_it walk_keys (fun i H' => Same (upd H1 kt (.frz od (.dK (kkv ks)))) H' ∧ ∃ rs : List KRow, rs.length = i ∧ (∀ (j : Nat) (a b : KRow), ks[j]? = some a → rs[j]? = some b → b.nm = a.nm ∧ b.fcs.Perm a.fcs ∧ sortedS b.fcs = true ∧ b.fds = a.fds) ∧ (∀ r ∈ rs, r.At H' ∧ r.da ≠ Da) ∧ H' Da = some (.dK (kkv rs)))
   ⟨same_new nD, [], rfl, (fun j a b _ e => by simp at e), (fun r m => by cases m), upd_same⟩ (fun i H _ p => p.1 _ _ upd_same) ?_ ?_
  ·rintro i y H2 H3 hi ⟨sm, rs, hl, hrel, hat, eD⟩ ⟨rfl, k, v, e, rfl⟩
   obtain ⟨k, er, rfl, rfl⟩ := kkv_at e
   have hm := List.mem_of_getElem? er
   have rk : Rd H3 kt (.dK (kkv ks)) := .inr ⟨od, sm _ _ upd_same⟩
   have hk1 := S1.ka k hm
   have gl : Gr kt H1 (upd H1 kt (.frz od (.dK (kkv ks)))) := Gr.box
   have ht : H3 k.t = some (.tup [.ref k.fa, .ref k.da]) := sm _ _ (by rw [upd_ne (ne_of hk1.t S1.kd (by intro z; cases z))]; exact hk1.t)
   have hfa : H3 k.fa = some (.tup (k.fcs.map V.str)) := sm _ _ (by rw [upd_ne (ne_of hk1.f S1.kd (by intro z; cases z))]; exact hk1.f)
   have hda : Rd H3 k.da (.dK (fkv k.fds)) := rd_same sm (rd_put S1.kd hk1.d.at_)
   have hsh : ∀ f ∈ k.fds, ShAt H3 f.2.1 f.2.2 := fun f m => ((hk1.d.sh f m).gr (xs := []) (.inr ⟨_, S1.kd⟩) Gr.box).same sm
   have few := (ok.kf k hm).2.2
   refine ⟨rfl, lcT ⟨.str k.nm, rfl, .ref kt, rfl, .str k.nm, rfl, kt, _, rfl, .inl ⟨kkv ks, .inr k.nm, rk, rfl, (kkv_val ok.ndk hm).symm⟩, k.t, _, 0, _, rfl, rfl, .inl (.inl ht), atI_nat (j := 0) rfl, k.fa, k.fcs, rfl, .inl (.inl hfa), by omega, fun ys p pm so np => ⟨p, _, rfl, .inl ⟨SqL.of upd_same, fun l nl => ?_⟩⟩⟩⟩
   have s4 : Same H3 (upd (upd H3 p (.lst (ys.map V.str))) l (.tup (ys.map V.str))) := (same_new np).trans (same_new nl)
   have el : (upd (upd H3 p (.lst (ys.map V.str))) l (.tup (ys.map V.str))) l = some (.tup (ys.map V.str)) := upd_same
   generalize upd (upd H3 p (.lst (ys.map V.str))) l (.tup (ys.map V.str)) = H4 at s4 el
   refine ⟨.ref kt, rfl, .str k.nm, rfl, kt, _, rfl, .inl ⟨kkv ks, .inr k.nm, rd_same s4 rk, rfl, (kkv_val ok.ndk hm).symm⟩, k.t, _, 1, _, rfl, rfl, .inl (.inl (s4 _ _ ht)), atI_nat (j := 1) rfl, k.da, fkv k.fds, rfl, rd_same s4 hda, fun d nd => ?_⟩
   refine ⟨by show 2 ≤ sizeLine; decide, fun t nt => ?_⟩
   have s5 : Same H3 (upd (upd H4 d (.dK (fkv k.fds))) t (.tup [.ref l, .ref d])) := (s4.trans (same_new nd)).trans (same_new nt)
   have eD5 := s5 _ _ eD
   have ndD : d ≠ Da := (ne_of_none (s4 _ _ eD) nd).symm
   have at5 : (KRow.mk k.nm t l d ys k.fds).At (upd (upd H4 d (.dK (fkv k.fds))) t (.tup [.ref l, .ref d])) :=
    ⟨upd_same, (((same_new nd).trans (same_new nt)) _ _ el), (by rw [upd_ne (ne_of_none (upd_same) nt)]; exact upd_same), fun f m => (hsh f m).same s5⟩
   refine ⟨kkv rs, .inr k.nm, rfl, eD5, ?_, same_upd (sm.trans s5) nD, rs ++ [KRow.mk k.nm t l d ys k.fds], ?_, ?_, ?_, ?_⟩
   ·rw [show (kkv rs).length = rs.length from List.length_map ..]
    exact Nat.lt_of_le_of_lt (show rs.length ≤ 1000 by omega) (by decide)
   ·rw [List.length_append, hl]; rfl
   ·exact rel_snoc er hl hrel ⟨rfl, pm, so, rfl⟩
   ·intro r hr
    rcases List.mem_append.mp hr with hr | hr
    ·exact ⟨((hat r hr).1.same s5).put eD5 (hat r hr).2, (hat r hr).2⟩
    ·obtain rfl := List.mem_singleton.mp hr
     exact ⟨at5.put eD5 ndD, ndD⟩
   ·rw [upd_same]
    have hn : k.nm ∉ rs.map (fun k : KRow => k.nm) := by
     rw [rel_names (f := fun k : KRow => k.nm) hl (by omega) (fun j a b ea eb => (hrel j a b ea eb).1)]
     exact name_new ok.ndk er
    exact congrArg (fun z => some (HO.dK z)) (put_snoc (f := fun k : KRow => k.nm) (g := fun k => V.ref k.t) (r := KRow.mk k.nm t l d ys k.fds) hn)
  ·rintro H2 ⟨sm, rs, hl, hrel, hat, eD⟩
   refine ⟨sm _ _ upd_same, ?_⟩
   have nDk : Da ≠ kt := fun z => by rw [z, upd_same] at nD; cases nD
   have su : Same H1 (upd H2 kt (.dK (kkv ks))) := same_unlock S1.kd sm
   have eD' : (upd H2 kt (.dK (kkv ks))) Da = some (.dK (kkv rs)) := by rw [upd_ne nDk]; exact eD
   have hat' : ∀ r ∈ rs, r.At (upd H2 kt (.dK (kkv ks))) := fun r m => (hat r m).1.gr (Oth.frz (sm _ _ upd_same)) Gr.box
   have hx2 := su _ _ hx1
   generalize upd H2 kt (.dK (kkv ks)) = H3 at su eD' hat' hx2
   refine ⟨.ref x, rfl, x, C, dx, _, rfl, hx2, L.cl, L.nk, by show 0 < 1000; decide, ?_⟩
   have g4 : Gr x H (upd H3 x (.ins C dx (putF "kind_table" (.ref Da) []))) := (gr_x (s1.trans su)).trans Gr.box
   have eD4 : (upd H3 x (.ins C dx (putF "kind_table" (.ref Da) []))) Da = some (.dK (kkv rs)) := Gr.box (b := x) _ _ ((Oth.ins hx2).ned eD') eD'
   have hat4 : ∀ r ∈ rs, r.At (upd H3 x (.ins C dx (putF "kind_table" (.ref Da) []))) := fun r m => (hat' r m).gr (Oth.ins hx2) Gr.box
   have hx4 : (upd H3 x (.ins C dx (putF "kind_table" (.ref Da) []))) x = some (.ins C dx [(("kind_table" : Str), V.ref Da)]) := by rw [upd_same, pf1]
   generalize upd H3 x (.ins C dx (putF "kind_table" (.ref Da) [])) = H4 at g4 eD4 hat4 hx4
   have relk : RelK ks rs := ⟨by omega, hrel⟩
   clear hat hat' eD eD' hx2 su sm hrel hl nD nDk
   have S4 := S.gr (Oth.ins hx) g4
   refine ⟨ft, .dK (fkvs fs), S4.fd, trivial, fun od => ⟨.ref ft, rfl, ft, od, rfl, .inl ⟨fkvs fs, upd_same, fun Db nD => ?_⟩⟩⟩
   have hfl : (fkvs fs).length = fs.length := List.length_map ..
   refine dc_it walk_keys (fun i H' => Same (upd H4 ft (.frz od (.dK (fkvs fs)))) H' ∧ ∃ ts : List FRow, ts.length = i ∧ (∀ (j : Nat) (a b : FRow), fs[j]? = some a → ts[j]? = some b → b.nm = a.nm ∧ b.fds = a.fds) ∧ (∀ r ∈ ts, FldAt H' r.da r.fds ∧ r.da ≠ Db) ∧ H' Db = some (.dK (fkvs ts)))
    ⟨same_new nD, [], rfl, (fun j a b _ e => by simp at e), (fun r m => by cases m), upd_same⟩ (fun i H _ p => p.1 _ _ upd_same) ?_ ?_
   ·rintro i y H5 H6 hi ⟨sm, ts, hl, hrel, hat, eD⟩ ⟨rfl, k, v, e, rfl⟩
    obtain ⟨k, er, rfl, rfl⟩ := fkvs_at e
    have hm := List.mem_of_getElem? er
    have rk : Rd H6 ft (.dK (fkvs fs)) := .inr ⟨od, sm _ _ upd_same⟩
    have hk1 := S4.fa k hm
    have hda : Rd H6 k.da (.dK (fkv k.fds)) := rd_same sm (rd_put S4.fd hk1.at_)
    have hsh : ∀ f ∈ k.fds, ShAt H6 f.2.1 f.2.2 := fun f m => ((hk1.sh f m).gr (xs := []) (.inr ⟨_, S4.fd⟩) Gr.box).same sm
    refine ⟨rfl, lcT ⟨.str k.nm, rfl, .ref ft, rfl, .str k.nm, rfl, ft, _, rfl, .inl ⟨fkvs fs, .inr k.nm, rk, rfl, (fkvs_val ok.ndf hm).symm⟩, k.da, fkv k.fds, rfl, hda, fun d nd => ?_⟩⟩
    have s5 : Same H6 (upd H6 d (.dK (fkv k.fds))) := same_new nd
    have eD5 := s5 _ _ eD
    have ndD : d ≠ Db := (ne_of_none eD nd).symm
    have at5 : FldAt (upd H6 d (.dK (fkv k.fds))) d k.fds := ⟨upd_same, fun f m => (hsh f m).same s5⟩
    refine ⟨fkvs ts, .inr k.nm, rfl, eD5, ?_, same_upd (sm.trans s5) nD, ts ++ [FRow.mk k.nm d k.fds], ?_, ?_, ?_, ?_⟩
    ·rw [show (fkvs ts).length = ts.length from List.length_map ..]
     exact Nat.lt_of_le_of_lt (show ts.length ≤ 1000 by omega) (by decide)
    ·rw [List.length_append, hl]; rfl
    ·exact rel_snoc er hl hrel ⟨rfl, rfl⟩
    ·intro r hr
     rcases List.mem_append.mp hr with hr | hr
     ·exact ⟨((hat r hr).1.same s5).put eD5 (hat r hr).2, (hat r hr).2⟩
     ·obtain rfl := List.mem_singleton.mp hr
      exact ⟨at5.put eD5 ndD, ndD⟩
    ·rw [upd_same]
     have hn : k.nm ∉ ts.map (fun k : FRow => k.nm) := by
      rw [rel_names (f := fun k : FRow => k.nm) hl (by omega) (fun j a b ea eb => (hrel j a b ea eb).1)]
      exact name_new ok.ndf er
     exact congrArg (fun z => some (HO.dK z)) (put_snoc (f := fun k : FRow => k.nm) (g := fun k => V.ref k.da) (r := FRow.mk k.nm d k.fds) hn)
   ·rintro H5 ⟨sm, ts, hl, hrel, hat, eD⟩
    refine ⟨sm _ _ upd_same, ?_⟩
    have nDk : Db ≠ ft := fun z => by rw [z, upd_same] at nD; cases nD
    have su : Same H4 (upd H5 ft (.dK (fkvs fs))) := same_unlock S4.fd sm
    have eD' : (upd H5 ft (.dK (fkvs fs))) Db = some (.dK (fkvs ts)) := by rw [upd_ne nDk]; exact eD
    have hat' : ∀ r ∈ ts, FldAt (upd H5 ft (.dK (fkvs fs))) r.da r.fds := fun r m => (hat r m).1.gr (Oth.frz (sm _ _ upd_same)) Gr.box
    have hx5 := su _ _ hx4
    have eDa5 := su _ _ eD4
    have hatk : ∀ r ∈ rs, r.At (upd H5 ft (.dK (fkvs fs))) := fun r m => (hat4 r m).same su
    generalize upd H5 ft (.dK (fkvs fs)) = H6 at su eD' hat' hx5 eDa5 hatk
    refine ⟨.ref x, rfl, x, C, dx, _, rfl, hx5, L.cl, L.nf, by show 1 < 1000; decide, ?_⟩
    have gx : Gr x H6 (upd H6 x (.ins C dx (putF "face_table" (.ref Db) [(("kind_table" : Str), V.ref Da)]))) := Gr.box
    have g7 := (g4.trans (gr_x su)).trans gx
    have eDa7 := gx _ _ ((Oth.ins hx5).ned eDa5) eDa5
    have eDb7 := gx _ _ ((Oth.ins hx5).ned eD') eD'
    have hatk7 : ∀ r ∈ rs, r.At _ := fun r m => (hatk r m).gr (Oth.ins hx5) gx
    have hatf7 : ∀ r ∈ ts, FldAt _ r.da r.fds := fun r m => (hat' r m).gr (Oth.ins hx5) gx
    have hx7 : (upd H6 x (.ins C dx (putF "face_table" (.ref Db) [(("kind_table" : Str), V.ref Da)]))) x = some (.ins C dx [(("kind_table" : Str), V.ref Da), ("face_table", V.ref Db)]) := by rw [upd_same, pf2]
    generalize upd H6 x (.ins C dx (putF "face_table" (.ref Db) [(("kind_table" : Str), V.ref Da)])) = H7 at g7 eDa7 eDb7 hatk7 hatf7 hx7 gx
    have relf : RelF fs ts := ⟨by omega, hrel⟩
    clear hat hat' eD eD' hx5 su sm hrel hl nD nDk gx
    have S7 := S.gr (Oth.ins hx) g7
    refine ⟨ut, .dK (ukv us), S7.ud, trivial, fun od => ⟨.ref ut, rfl, ut, od, rfl, .inl ⟨ukv us, upd_same, fun Dc nD => ?_⟩⟩⟩
    have hul : (ukv us).length = us.length := List.length_map ..
    refine dc_it walk_keys (fun i H' => Same (upd H7 ut (.frz od (.dK (ukv us)))) H' ∧ ∃ vs : List URow, vs.length = i ∧ (∀ (j : Nat) (a b : URow), us[j]? = some a → vs[j]? = some b → b.nm = a.nm ∧ b.ms.Perm a.ms ∧ sortedS b.ms = true) ∧ (∀ r ∈ vs, H' r.t = some (.tup (r.ms.map V.str))) ∧ H' Dc = some (.dK (ukv vs)))
     ⟨same_new nD, [], rfl, (fun j a b _ e => by simp at e), (fun r m => by cases m), upd_same⟩ (fun i H _ p => p.1 _ _ upd_same) ?_ ?_
    ·rintro i y H8 H9 hi ⟨sm, vs, hl, hrel, hat, eD⟩ ⟨rfl, k, v, e, rfl⟩
     obtain ⟨k, er, rfl, rfl⟩ := ukv_at e
     have hm := List.mem_of_getElem? er
     have rk : Rd H9 ut (.dK (ukv us)) := .inr ⟨od, sm _ _ upd_same⟩
     have ht : H9 k.t = some (.tup (k.ms.map V.str)) := sm _ _ (by rw [upd_ne (ne_of (S7.ua k hm) S7.ud (by intro z; cases z))]; exact S7.ua k hm)
     obtain ⟨_, _, n3, _⟩ := ok.ud k hm
     refine ⟨rfl, lcT ⟨.str k.nm, rfl, .ref ut, rfl, .str k.nm, rfl, ut, _, rfl, .inl ⟨ukv us, .inr k.nm, rk, rfl, (ukv_val ok.ndu hm).symm⟩, k.t, k.ms, rfl, .inl (.inl ht), by omega, fun ys p pm so np => ⟨p, _, rfl, .inl ⟨SqL.of upd_same, fun l nl => ?_⟩⟩⟩⟩
     have s5 : Same H9 (upd (upd H9 p (.lst (ys.map V.str))) l (.tup (ys.map V.str))) := (same_new np).trans (same_new nl)
     have eD5 := s5 _ _ eD
     have el : (upd (upd H9 p (.lst (ys.map V.str))) l (.tup (ys.map V.str))) l = some (.tup (ys.map V.str)) := upd_same
     refine ⟨ukv vs, .inr k.nm, rfl, eD5, ?_, same_upd (sm.trans s5) nD, vs ++ [URow.mk k.nm l ys], ?_, ?_, ?_, ?_⟩
     ·rw [show (ukv vs).length = vs.length from List.length_map ..]
      exact Nat.lt_of_le_of_lt (show vs.length ≤ 1000 by omega) (by decide)
     ·rw [List.length_append, hl]; rfl
     ·exact rel_snoc er hl hrel ⟨rfl, pm, so⟩
     ·intro r hr
      rcases List.mem_append.mp hr with hr | hr
      ·have e5 := s5 _ _ (hat r hr)
       rw [upd_ne (ne_of e5 eD5 (by intro z; cases z))]
       exact e5
      ·obtain rfl := List.mem_singleton.mp hr
       rw [upd_ne (ne_of el eD5 (by intro z; cases z))]
       exact el
     ·rw [upd_same]
      have hn : k.nm ∉ vs.map (fun k : URow => k.nm) := by
       rw [rel_names (f := fun k : URow => k.nm) hl (by omega) (fun j a b ea eb => (hrel j a b ea eb).1)]
       exact name_new ok.ndu er
      exact congrArg (fun z => some (HO.dK z)) (put_snoc (f := fun k : URow => k.nm) (g := fun k => V.ref k.t) (r := URow.mk k.nm l ys) hn)
    ·rintro H8 ⟨sm, vs, hl, hrel, hat, eD⟩
     refine ⟨sm _ _ upd_same, ?_⟩
     have nDk : Dc ≠ ut := fun z => by rw [z, upd_same] at nD; cases nD
     have su : Same H7 (upd H8 ut (.dK (ukv us))) := same_unlock S7.ud sm
     have eD' : (upd H8 ut (.dK (ukv us))) Dc = some (.dK (ukv vs)) := by rw [upd_ne nDk]; exact eD
     have hat' : ∀ r ∈ vs, (upd H8 ut (.dK (ukv us))) r.t = some (.tup (r.ms.map V.str)) := fun r m => by
      rw [upd_ne (ne_of (hat r m) (sm _ _ upd_same) (by intro z; cases z))]
      exact hat r m
     have hx8 := su _ _ hx7
     generalize upd H8 ut (.dK (ukv us)) = H9 at su eD' hat' hx8
     refine ⟨.ref x, rfl, x, C, dx, _, rfl, hx8, L.cl, L.nu, by show 2 < 1000; decide, ?_⟩
     refine ⟨.str root, rfl, .ref x, rfl, x, C, dx, _, rfl, upd_same, L.cl, L.nr, by rw [pf3]; show 3 < 1000; decide, ?_⟩
     have gx : Gr x H9 (upd (upd H9 x (.ins C dx (putF "union_table" (.ref Dc) [(("kind_table" : Str), V.ref Da), ("face_table", V.ref Db)]))) x (.ins C dx (putF "root" (.str root) (putF "union_table" (.ref Dc) [(("kind_table" : Str), V.ref Da), ("face_table", V.ref Db)])))) := Gr.box.trans Gr.box
     refine q _ ((g7.trans (gr_x su)).trans gx) ⟨dx, Da, Db, Dc, rs, ts, vs, ?_, ⟨?_, ?_, ?_, ?_, ?_, ?_⟩, relk, relf, ⟨by omega, hrel⟩⟩
     ·rw [upd_same, pf3, pf4]
     ·exact gx _ _ ((Oth.ins hx8).ned (su _ _ eDa7)) (su _ _ eDa7)
     ·exact gx _ _ ((Oth.ins hx8).ned (su _ _ eDb7)) (su _ _ eDb7)
     ·exact gx _ _ ((Oth.ins hx8).ned eD') eD'
     ·exact fun r m => ((hatk7 r m).same su).gr (Oth.ins hx8) gx
     ·exact fun r m => ((hatf7 r m).same su).gr (Oth.ins hx8) gx
     ·exact fun r m => gx _ _ ((Oth.ins hx8).net (hat' r m)) (hat' r m)
end
end NW
namespace NW
open PySem PySem.Spec PyProof.Rows L2
abbrev s_Lbox : Stmt := topS 58
abbrev N_Lbox : List Str := ["_law_script"]
theorem sc_Lbox : FnScope N_Lbox ["_law_script"] (defScope s_Lbox) := ⟨rfl, rfl, rfl, by decide +kernel, rfl, by decide +kernel, by decide +kernel⟩
abbrev s_Ldraw : Stmt := topS 59
abbrev N_Ldraw : List Str := ["_law_box_here", "_law_many", "_law_cell", "_law_digit", "_law_number_here"]
theorem sc_Ldraw : FnScope N_Ldraw ["_law_box_here", "_law_many"] (defScope s_Ldraw) := ⟨rfl, rfl, rfl, by decide +kernel, rfl, by decide +kernel, by decide +kernel⟩
section
variable {P : Program} {w : World} {K : PySem.W.Frag} {mg : Str → Option Value} {base : Heap}
def spLbox (K : PySem.W.Frag) : Sp := fun vs H Q _ => ∃ (a : Addr) (ns : List Int), vs = [.ref a] ∧ SqL K H a (ns.map V.int) ∧ ns.length ≤ 63 ∧ ∀ H' b r, Same H H' → H b = none → H r = none → Box H' b r → Q (.ref b) H'
theorem ok_Lbox {f : Addr} {fd : FuncData} (D : Df K mg "_law_box" s_Lbox f fd ["_law_script"]) (T : Nms mg) : FnOk P w K mg base CX0 1 f fd ["_law_script"] (spLbox K) := by
 refine D.F.ok sc_Lbox (fun vs H Q E h => ?_) (fun cdv A outer s H vs Q E hr h => ?_)
 ·obtain ⟨a, ns, rfl, _⟩ := h
  rfl
 ·obtain ⟨a, ns, rfl, hS, hlen, q⟩ := h
  refine ⟨_, (pss_one (ps_ret (pe_lst (pa_cons (pe_callTy call_list_of (by rfl) T.n_list (by decide +kernel) (pa_cons (pe_slice sl_list (pv 0) po_none (po_some pe_int)) pa_nil)) (pa_cons pe_int (pa_cons pe_int (pa_cons pe_int (pa_cons pe_int pa_nil)))))))), ?_⟩
  refine ⟨.ref a, rfl, 63, rfl, a, _, rfl, hS, fun p np => ?_⟩
  refine ⟨p, _, rfl, .inl (SqL.of upd_same), fun l nl => ?_⟩
  refine ⟨by show 5 ≤ sizeLine; decide, fun b nb => ?_⟩
  have e1 : cutV (ns.map V.int) none (some 63) = ns.map V.int := by
   unfold cutV
   rw [show HT.sIx (ns.map V.int).length (ns.map V.int).length (some 63) = min 63 (ns.map V.int).length from HT.sIx_nat _ _ 63, HT.sIx_none]
   rw [List.length_map, Nat.min_eq_right hlen, List.drop_zero, Nat.sub_zero]
   exact List.take_of_length_le (by rw [List.length_map]; exact Nat.le_refl _)
  rw [e1] at nl nb ⊢
  have nlp : l ≠ p := fun e => by rw [e, upd_same] at nl; cases nl
  have nbl : b ≠ l := fun e => by rw [e, upd_same] at nb; cases nb
  have nbp : b ≠ p := fun e => by rw [e, upd_ne nlp.symm, upd_same] at nb; cases nb
  have nb0 : H b = Option.none := by rw [upd_ne nbl, upd_ne nbp] at nb; exact nb
  have nl0 : H l = Option.none := by rw [upd_ne nlp] at nl; exact nl
  refine q _ b l (fun c o e => ?_) nb0 nl0 ⟨ns, 0, 0, 1, 0, upd_same, ?_, nbl.symm, hlen, Int.le_refl _, by decide, by decide⟩
  ·rw [upd_ne (ne_of_none e nb0), upd_ne (ne_of_none e nl0), upd_ne (ne_of_none e np)]
   exact e
  ·rw [upd_ne nbl.symm, upd_same]
def spLdraw : Sp := fun vs H Q _ => ∃ (b r : Addr) (m : Int), vs = [.ref b, .int m] ∧ Box H b r ∧ 0 < m ∧ m < 1073741824 ∧ ∀ v H', 0 ≤ v → v < m → Gr b H H' → Box H' b r → Q (.int v) H'
theorem fmod_range {a m : Int} (h : 0 < m) : 0 ≤ a.fmod m ∧ a.fmod m < m := ⟨Int.fmod_nonneg_of_pos a h, Int.fmod_lt_of_pos a h⟩
theorem ok_Ldraw {f : Addr} {fd : FuncData} (D : Df K mg "_law_draw" s_Ldraw f fd ["_law_box_here", "_law_many"]) (T : Nms mg) : FnOk P w K mg base CX0 1 f fd ["_law_box_here", "_law_many"] spLdraw := by
 refine D.F.ok sc_Ldraw (fun vs H Q E h => ?_) (fun cdv A outer s H vs Q E hr h => ?_)
 ·obtain ⟨b, r, m, rfl, _⟩ := h
  rfl
 ·obtain ⟨b, r, m, rfl, ⟨ns, i, g, z, c, W⟩, m0, m1, q⟩ := h
  refine ⟨_, (pss_cons (ps_asg (pe_op op_add (pe_ix ix_list (pv 0) pe_int (fun _ _ => rfl)) pe_int) (pg_sub (pv 0) pe_int set_list))
   (pss_cons (ps_if (PW.pt (pw_and (pt_cmpR op_eq (pe_ix ix_list (pv 0) pe_int (fun _ _ => rfl)) pe_int (nomark _)) (pw_and1 (pt_cmpR op_lt (pe_ix ix_list (pv 0) pe_int (fun _ _ => rfl)) (pe_callB call_len_seq (by rfl) T.n_len PySem.boot_len (pa_cons (pe_ix ix_list (pv 0) pe_int (fun _ _ => rfl)) pa_nil)) (nomark _)))))
    (pss_cons (ps_set (i := 2) sc_Ldraw.nd rfl (.inl rfl) (pe_ix ix_list (pe_ix ix_list (pv 0) pe_int (fun _ _ => rfl)) (pe_ix ix_list (pv 0) pe_int (fun _ _ => rfl)) (fun _ _ => rfl)))
    (pss_cons (ps_asg (pe_op op_add (pe_ix ix_list (pv 0) pe_int (fun _ _ => rfl)) pe_int) (pg_sub (pv 0) pe_int set_list))
    (pss_one (ps_if (pt_cmpR op_ge (pv 2) (pe_op op_pow pe_int pe_int) (nomark _))
     (pss_one (ps_asg (pv 2) (pg_sub (pv 0) pe_int set_list)))
     (pss_one (ps_asg (pe_op op_modN (pe_callTy call_int1 (by rfl) T.n_int (by decide +kernel) (pa_cons (pe_op op_add (pe_op op_add (pe_op op_mul (pe_ix ix_list (pv 0) pe_int (fun _ _ => rfl)) pe_int) (pe_op op_mul (pe_op op_modN (pe_callTy call_int1 (by rfl) T.n_int (by decide +kernel) (pa_cons (pv 2) pa_nil)) pe_int) pe_int)) pe_int) pa_nil)) pe_int) (pg_sub (pv 0) pe_int set_list)))))))
    pss_nil)
   (pss_cons (ps_if (pt_cmpR op_gt (pe_ix ix_list (pv 0) pe_int (fun _ _ => rfl)) pe_int (nomark _))
    (pss_cons (ps_set (i := 3) sc_Ldraw.nd rfl (.inl rfl) (pe_op op_modN (pe_callTy call_int1 (by rfl) T.n_int (by decide +kernel) (pa_cons (pe_ix ix_list (pv 0) pe_int (fun _ _ => rfl)) pa_nil)) (pv 1)))
    (pss_cons (ps_asg (pe_op op_fdivN (pe_ix ix_list (pv 0) pe_int (fun _ _ => rfl)) (pv 1)) (pg_sub (pv 0) pe_int set_list))
    (pss_one (ps_ret (pv 3)))))
    pss_nil)
   (pss_cons (ps_asg (pe_op op_modN (pe_callTy call_int1 (by rfl) T.n_int (by decide +kernel) (pa_cons (pe_op op_add (pe_op op_add (pe_op op_mul (pe_ix ix_list (pv 0) pe_int (fun _ _ => rfl)) pe_int) (pe_op op_mul (pe_ix ix_list (pv 0) pe_int (fun _ _ => rfl)) pe_int)) pe_int) pa_nil)) pe_int) (pg_sub (pv 0) pe_int set_list))
   (pss_cons (ps_set (i := 4) sc_Ldraw.nd rfl (.inl rfl) (pe_op op_modN (pe_callTy call_int1 (by rfl) T.n_int (by decide +kernel) (pa_cons (pe_op op_add (pe_op op_mul (pe_ix ix_list (pv 0) pe_int (fun _ _ => rfl)) (pe_op op_add (pe_op op_mul (pe_ix ix_list (pv 0) pe_int (fun _ _ => rfl)) pe_int) pe_int)) (pe_ix ix_list (pv 0) pe_int (fun _ _ => rfl))) pa_nil)) pe_int))
   (pss_cons (ps_set (i := 4) sc_Ldraw.nd rfl (.inl rfl) (pe_op op_modN (pe_callTy call_int1 (by rfl) T.n_int (by decide +kernel) (pa_cons (pe_op op_mul (pv 4) (pe_op op_add (pe_op op_fdivN (pv 4) pe_int) pe_int)) pa_nil)) pe_int))
   (pss_one (ps_ret (pe_op op_modN (pe_callTy call_int1 (by rfl) T.n_int (by decide +kernel) (pa_cons (pe_op op_fdivN (pv 4) pe_int) pa_nil)) (pv 1)))))))))), ?_⟩
  refine cut2 (fun σ2 H2 => ∃ i g z c y2, σ2 = [some (.ref b), some (.int m), y2, none, none] ∧ Gr b H H2 ∧ BoxW H2 b r ns i g z c) ?_ (fun rest => ?_)
  ·rintro σ2 H2 ⟨i, g, z, c, y2, rfl, gr, W⟩
   refine ⟨.ref b, rfl, b, _, 2, _, rfl, rfl, W.sq, at2, _, _, rfl, rfl, _, rfl, ite2 (fun e => ?_) (fun e => ?_)⟩
   ·refine ⟨.ref b, rfl, b, _, 2, _, rfl, rfl, W.sq, at2, .inl ⟨_, rfl, _, rfl, _, _, rfl, rfl, Int.ne_of_gt m0, ?_⟩⟩
    refine ⟨.ref b, rfl, b, _, 2, _, rfl, rfl, W.sq, at2, _, rfl, _, _, rfl, rfl, ⟨Int.ne_of_gt m0, by omega⟩, .ref b, rfl, b, _, 2, 2, rfl, rfl, W.at_, rfl, ?_⟩
    have W1 := W.set (i' := i) (g' := g.fdiv m) (z' := z) (c' := c) W.i0 W.z0 W.z1
    exact ⟨_, rfl, q _ _ (fmod_range m0).1 (fmod_range m0).2 (gr.trans Gr.box) ⟨_, _, _, _, _, W1⟩⟩
   ·-- box[3] = ..
    refine ⟨.ref b, rfl, b, _, 3, _, rfl, rfl, W.sq, at3, _, _, rfl, rfl, .inr ⟨by decide, by decide⟩, ?_⟩
    refine ⟨.ref b, rfl, b, _, 4, _, rfl, rfl, W.sq, at4, _, _, rfl, rfl, .inr ⟨by decide, by decide⟩, _, _, rfl, rfl, _, _, rfl, rfl, .inl ⟨_, rfl, _, _, rfl, rfl, nz rfl, ?_⟩⟩
    refine ⟨.ref b, rfl, b, _, 3, 3, rfl, rfl, W.at_, rfl, ?_⟩
    have hz := fmod_range (a := z * 48271 + c * 69621 + 1) (show (0 : Int) < 2147483629 by decide)
    have W1 := W.set (i' := i) (g' := g) (z' := (z * 48271 + c * 69621 + 1).fmod 2147483629) (c' := c) W.i0 hz.1 (by omega)
    have g1 := gr.trans (Gr.box (b := b) (H := H2) (o := .lst (bl r i g ((z * 48271 + c * 69621 + 1).fmod 2147483629) c)))
    refine ⟨.ref b, rfl, b, _, 3, _, rfl, rfl, W1.sq, at3, .ref b, rfl, b, _, 4, _, rfl, rfl, W1.sq, at4, _, _, rfl, rfl, .inr ⟨by decide, by decide⟩, _, _, rfl, rfl, _, _, rfl, rfl, .inl ⟨by omega, by omega⟩, ?_⟩
    refine ⟨.ref b, rfl, b, _, 4, _, rfl, rfl, W1.sq, at4, _, _, rfl, rfl, .inl ⟨_, rfl, _, _, rfl, rfl, nz rfl, ?_⟩⟩
    have hn1 := fmod_range (a := (((z * 48271 + c * 69621 + 1).fmod 2147483629) * (c * 7919 + 17) + c)) (show (0 : Int) < 2147483399 by decide)
    refine ⟨_, rfl, _, rfl, _, _, rfl, rfl, ⟨by decide, by decide⟩, _, _, rfl, rfl, _, _, rfl, rfl, .inl ⟨by omega, by omega⟩, .inl ⟨_, rfl, _, _, rfl, rfl, nz rfl, ?_⟩⟩
    refine ⟨_, rfl, _, _, rfl, rfl, ⟨by decide, by decide⟩, .inl ⟨_, rfl, .int m, rfl, _, _, rfl, rfl, Int.ne_of_gt m0, ?_⟩⟩
    exact q _ _ (fmod_range m0).1 (fmod_range m0).2 g1 ⟨_, _, _, _, _, W1⟩
  refine ⟨.ref b, rfl, b, _, 4, _, rfl, rfl, W.sq, at4, c, 1, rfl, rfl, .ref b, rfl, b, _, 4, 4, rfl, rfl, W.at_, rfl, ?_⟩
  have W1 := W.set (i' := i) (g' := g) (z' := z) (c' := c + 1) W.i0 W.z0 W.z1
  have g1 : Gr b H (upd H b (.lst (bl r i g z (c + 1)))) := Gr.box
  refine ⟨.ref b, rfl, b, _, 2, _, rfl, rfl, W1.sq, at2, rfl, _, rfl, ite2 (fun e => ?_) (fun e => ?_)⟩
  ·refine ⟨.ref b, rfl, b, _, 1, _, rfl, rfl, W1.sq, at1, .ref b, rfl, b, _, 0, _, rfl, rfl, W1.sq, at0, r, _, rfl, .inl (SqL.of W1.lst), _, _, rfl, rfl, _, rfl, ite2 (fun e => ?_) (fun e => ?_)⟩
   ·-- cell = box[0][box[1]]
    have ei : i < (ns.map V.int).length := of_decide_eq_true e
    rw [List.length_map] at ei
    obtain ⟨j, rfl⟩ := Int.eq_ofNat_of_zero_le W.i0
    have hj : j < ns.length := by omega
    have gj : atI (ns.map V.int) (j : Int) = some (.int ns[j]) := atI_nat (by rw [List.getElem?_map, List.getElem?_eq_getElem hj]; rfl)
    refine ⟨.ref b, rfl, b, _, 0, _, rfl, rfl, W1.sq, at0, .ref b, rfl, b, _, 1, _, rfl, rfl, W1.sq, at1, r, _, _, _, rfl, rfl, SqL.of W1.lst, gj, ?_⟩
    refine ⟨.ref b, rfl, b, _, 1, _, rfl, rfl, W1.sq, at1, _, 1, rfl, rfl, .ref b, rfl, b, _, 1, 1, rfl, rfl, W1.at_, rfl, ?_⟩
    have W2 := W1.set (i' := (j : Int) + 1) (g' := g) (z' := z) (c' := c + 1) (by omega) W.z0 W.z1
    have g2 := g1.trans (Gr.box (b := b) (H := upd H b (.lst (bl r j g z (c + 1)))) (o := .lst (bl r ((j : Int) + 1) g z (c + 1))))
    refine ⟨.int ns[j], rfl, _, _, rfl, rfl, ⟨by decide, by decide, by decide⟩, _, _, rfl, rfl, _, rfl, ite2 (fun e => ?_) (fun e => ?_)⟩
    ·refine ⟨.int ns[j], rfl, .ref b, rfl, b, _, 2, 2, rfl, rfl, W2.at_, rfl, ?_⟩
     have W3 := W2.set (i' := (j : Int) + 1) (g' := ns[j]) (z' := z) (c' := c + 1) (by omega) W.z0 W.z1
     exact rest _ _ ⟨_, _, _, _, some (.int ns[j]), rfl, g2.trans Gr.box, W3⟩
    ·refine ⟨.ref b, rfl, b, _, 3, _, rfl, rfl, W2.sq, at3, _, _, rfl, rfl, .inr ⟨by decide, by decide⟩, ?_⟩
     refine ⟨.int ns[j], rfl, .inl ⟨_, rfl, _, _, rfl, rfl, nz rfl, _, _, rfl, rfl, .inr ⟨by decide, by decide⟩, _, _, rfl, rfl, _, _, rfl, rfl, .inl ⟨_, rfl, _, _, rfl, rfl, nz rfl, ?_⟩⟩⟩
     refine ⟨.ref b, rfl, b, _, 3, 3, rfl, rfl, W2.at_, rfl, ?_⟩
     have hz := fmod_range (a := z * 48271 + (ns[j]).fmod 1000003 * 69621 + 7919) (show (0 : Int) < 2147483647 by decide)
     have W3 := W2.set (i' := (j : Int) + 1) (g' := g) (z' := (z * 48271 + (ns[j]).fmod 1000003 * 69621 + 7919).fmod 2147483647) (c' := c + 1) (by omega) hz.1 (by omega)
     exact rest _ _ ⟨_, _, _, _, some (.int ns[j]), rfl, g2.trans Gr.box, W3⟩
   ·exact rest _ _ ⟨_, _, _, _, none, rfl, g1, W1⟩
  ·exact rest _ _ ⟨_, _, _, _, none, rfl, g1, W1⟩
end
end NW
namespace NW
open PySem PySem.Spec PyProof.Rows L2
open TL (tl)
open StX (pa_star)
abbrev s_Lshape : Stmt := topS 61
abbrev N_Lshape : List Str := ["_law_box_here", "_law_bases", "_law_most", "_law_shape_here", "_law_lists", "_law_k", "_law_sure"]
theorem sc_Lshape : FnScope N_Lshape ["_law_box_here", "_law_bases", "_law_most"] (defScope s_Lshape) := ⟨rfl, rfl, rfl, by decide +kernel, rfl, by decide +kernel, by decide +kernel⟩
theorem okS_mono {l : List Str} : ∀ {s : Shp} {n m : Nat} {o : Bool}, n ≤ m → okS l n o s → okS l m o s := by
 intro s
 induction s with
 | base z =>
  intro n m o _ h
  cases n <;> cases m <;> exact h
 | sure s ih =>
  intro n m o hl h
  cases n with
  | zero => exact h.elim
  | succ n =>
   cases m with
   | zero => omega
   | succ m => exact ⟨h.1, ih (by omega) h.2⟩
 | list s ih =>
  intro n m o hl h
  cases n with
  | zero => exact h.elim
  | succ n =>
   cases m with
   | zero => omega
   | succ m => exact ih (by omega) (show okS l n false s from h)
def Shp.isSure : Shp → Bool
 | .sure _ => true
 | _ => false
theorem okS_un {l : List Str} {n : Nat} {s : Shp} (h : okS l n false s) (hs : s.isSure = false) : okS l n true s := by
 cases s with
 | base z => cases n <;> exact h
 | sure s => cases hs
 | list s => cases n <;> exact h
section
variable {P : Program} {w : World} {K : PySem.W.Frag} {mg : Str → Option Value} {base : Heap}

def spLshape : Sp := fun vs H Q _ => ∃ (b r bs : Addr) (l : List Str) (m : Nat), vs = [.ref b, .ref bs, .int m] ∧ Box H b r ∧ H bs = some (.lst (l.map V.str)) ∧ bs ≠ b ∧ 0 < l.length ∧ l.length ≤ 1000 ∧ m ≤ 4 ∧
 ∀ v s H', ShAt H' v s → okS l 4 false s → Gr b H H' → Box H' b r → Q v H'
theorem ok_Lshape {f f1 : Addr} {fd fd1 : FuncData} (D : Df K mg "_law_shape" s_Lshape f fd ["_law_box_here", "_law_bases", "_law_most"]) (D_Ldraw : Df K mg "_law_draw" s_Ldraw f1 fd1 ["_law_box_here", "_law_many"]) (T : Nms mg) : FnOk P w K mg base CX0 2 f fd ["_law_box_here", "_law_bases", "_law_most"] spLshape := by
 have G_Ldraw : FnOk P w K mg base CX0 1 f1 fd1 ["_law_box_here", "_law_many"] spLdraw := ok_Ldraw D_Ldraw T
 refine D.F.ok sc_Lshape (fun vs H Q E h => ?_) (fun cdv A outer s H vs Q E hr h => ?_)
 ·obtain ⟨b, r, bs, l, m, rfl, _⟩ := h
  rfl
 ·obtain ⟨b, r, bs, l, m, rfl, B, hbs, nbs, l0, l1, hm, q⟩ := h
  refine ⟨_, (pss_cons (ps_set (i := 3) sc_Lshape.nd rfl (.inl rfl) (pe_ix ix_list (pv 1) (pe_call G_Ldraw (hr.mono (by decide)) (by rfl) D_Ldraw.g D_Ldraw.F.kp D_Ldraw.b .nil pass0 (pa_cons (pv 0) (pa_cons (pe_callB call_len_seq (by rfl) T.n_len (by decide +kernel) (pa_cons (pv 1) pa_nil)) pa_nil))) (fun _ _ => rfl)))
   (pss_cons (ps_set (i := 4) sc_Lshape.nd rfl (.inl rfl) pe_int)
   (pss_cons (ps_for PassesOwn.never rfl (pi_range1 (by rfl) T.n_range (pa_cons (pe_call G_Ldraw (hr.mono (by decide)) (by rfl) D_Ldraw.g D_Ldraw.F.kp D_Ldraw.b .nil pass0 (pa_cons (pv 0) (pa_cons (pe_op op_add (pv 2) pe_int) pa_nil))) pa_nil)) (pg_name (i := 5) sc_Lshape.nd rfl (.inl rfl))
    (pss_cons (ps_set (i := 6) sc_Lshape.nd rfl (.inl rfl) (pe_and (pe_not (pe_callB call_isi (by rfl) T.n_isinstance (by decide +kernel) (pa_cons (pv 3) (pa_cons (pe_bltn (v := .ty "str") (by rfl) T.n_str (by decide +kernel) rfl) pa_nil)))) (pe_one (pe_cmpR op_eq (pe_ix ix_tup (pv 3) pe_int (fun _ _ => rfl)) pe_str (nomark _)))))
    (pss_one (ps_if (PW.pt (pw_and (pt_not (pt_val (pv 6))) (pw_and1 (pt_cmpR op_eq (pe_call G_Ldraw (hr.mono (by decide)) (by rfl) D_Ldraw.g D_Ldraw.F.kp D_Ldraw.b .nil pass0 (pa_cons (pv 0) (pa_cons pe_int pa_nil))) pe_int (nomark _)))))
     (pss_one (ps_set (i := 3) sc_Lshape.nd rfl (.inl rfl) (pe_tup (pa_cons pe_str (pa_cons (pv 3) pa_nil)))))
     (pss_one (ps_if (PW.pt (pw_or (pt_cmpR op_lt (pv 4) pe_int (nomark _)) (pw_or1 (pt_cmpR op_eq (pv 2) pe_int (nomark _)))))
      (pss_cons (ps_set (i := 3) sc_Lshape.nd rfl (.inl rfl) (pe_tup (pa_cons pe_str (pa_cons (pv 3) pa_nil))))
      (pss_one (ps_set (i := 4) sc_Lshape.nd rfl (.inl rfl) (pe_op op_add (pv 4) pe_int))))
      pss_nil))))))
   (pss_one (ps_ret (pv 3)))))), ?_⟩
  refine ⟨.ref bs, rfl, .ref b, rfl, .ref bs, rfl, bs, _, rfl, .inl (SqL.of hbs), b, r, (l.length : Int), ?_, B, by omega, by omega, fun d H1 d0 d1 g1 B1 => ?_⟩
  ·show [V.ref b, V.int ((l.map V.str).length : Int)] = [V.ref b, V.int (l.length : Int)]
   rw [List.length_map]
  obtain ⟨d, rfl⟩ := Int.eq_ofNat_of_zero_le d0
  have hd : d < l.length := by omega
  refine ⟨bs, _, d, .str l[d], rfl, rfl, SqL.of (g1 _ _ nbs hbs), atI_nat (by rw [List.getElem?_map, List.getElem?_eq_getElem hd]; rfl), ?_⟩
  refine ⟨.ref b, rfl, .int m, rfl, _, _, rfl, rfl, b, r, ((m : Int) + 1), rfl, B1, by omega, by omega, fun n H2 n0 n1 g2 B2 => ?_⟩
  obtain ⟨n, rfl⟩ := Int.eq_ofNat_of_zero_le n0
  have hn : n ≤ m := by omega
  refine ⟨n, rfl, by omega, by omega, for_range (lo := 0) (n := n) (fun i σ H' => ∃ (v : V) (s : Shp) (c : Nat) (y5 y6 : Option V), σ = [some (.ref b), some (.ref bs), some (.int m), some v, some (.int c), y5, y6] ∧ ShAt H' v s ∧ okS l i false s ∧ Gr b H H' ∧ Box H' b r) ?_ ?_ ?_⟩
  ·exact ⟨_, .base l[d], 0, none, none, rfl, rfl, List.getElem_mem hd, g1.trans g2, B2⟩
  ·rintro i σ H3 hi ⟨v, s, c, y5, y6, rfl, hv, hs, g3, B3⟩
   refine cut1 (fun σ' H' => σ' = [some (.ref b), some (.ref bs), some (.int m), some v, some (.int c), some (.int (0 + i)), some (.bl s.isSure)] ∧ H3 = H') ?_ (fun rest => ?_)
   ·rintro σ' H' ⟨rfl, rfl⟩
    have hvs : ∀ {H5 : Hp}, Gr b H3 H5 → ShAt H5 v s := fun g => by
     obtain ⟨xs, e⟩ := B3.lst
     exact hv.grO (Oth.lst e) g
    refine cutE (fun σ' H' => σ' = [some (.ref b), some (.ref bs), some (.int m), some v, some (.int c), some (.int (0 + i)), some (.bl s.isSure)] ∧ Gr b H3 H' ∧ Box H' b r) ?_ (fun els => ?_)
    ·rintro σ' H5 ⟨rfl, g5, B5⟩
     have go : ∀ p, H5 p = none → ∃ (v' : V) (s' : Shp) (c' : Nat) (y5 y6 : Option V), ([some (V.ref b), some (V.ref bs), some (V.int m), some (V.ref p), some (V.int ((c : Int) + 1)), some (V.int (0 + i)), some (V.bl s.isSure)] : L2.St) = [some (V.ref b), some (V.ref bs), some (V.int m), some v', some (V.int c'), y5, y6] ∧ ShAt (upd H5 p (.tup [.str "list", v])) v' s' ∧ okS l (i + 1) false s' ∧ Gr b H (upd H5 p (.tup [.str "list", v])) ∧ Box (upd H5 p (.tup [.str "list", v])) b r :=
      fun p np => ⟨_, .list s, c + 1, _, _, rfl, ⟨p, v, rfl, upd_same, hvs (g5.trans (Gr.new np))⟩, hs, (g3.trans g5).trans (Gr.new np), B5.new np⟩
     refine ⟨.int c, rfl, _, _, rfl, rfl, _, rfl, ite2 (fun e => ?_) (fun e => ?_)⟩
     ·refine iteT ⟨v, rfl, by show 2 ≤ sizeLine; decide, fun p np => ⟨.int c, rfl, _, _, rfl, rfl, go p np⟩⟩
     ·refine ⟨.int m, rfl, rfl, _, rfl, ite2 (fun e => ?_) (fun e => ?_)⟩
      ·exact ⟨v, rfl, by show 2 ≤ sizeLine; decide, fun p np => ⟨.int c, rfl, _, _, rfl, rfl, go p np⟩⟩
      ·exact ⟨v, s, c, _, _, rfl, hvs g5, okS_mono (by omega) hs, g3.trans g5, B5⟩
    ·cases hsu : s.isSure with
     | true =>
      rw [hsu] at els
      exact ⟨_, rfl, true, rfl, iteF (els _ _ ⟨rfl, Gr.refl, B3⟩)⟩
     | false =>
      rw [hsu] at els
      refine ⟨_, rfl, false, rfl, iteT ⟨.ref b, rfl, b, r, 2, rfl, B3, by decide, by decide, fun d H4 d0 d1 g4 B4 => ⟨rfl, _, rfl, ite2 (fun e => ?_) (fun e => ?_)⟩⟩⟩
      ·exact ⟨v, rfl, by show 2 ≤ sizeLine; decide, fun p np => ⟨_, .sure s, c, _, _, rfl, ⟨p, v, rfl, upd_same, hvs (g4.trans (Gr.new np))⟩, ⟨rfl, okS_un hs hsu⟩, (g3.trans g4).trans (Gr.new np), B4.new np⟩⟩
      ·exact els _ _ ⟨rfl, g4, B4⟩
   ·cases s with
    | base z =>
     obtain rfl := hv
     exact ⟨.str z, rfl, _, _, _, _, true, rfl, .ty "str", .base (.str z), kit_ty (by decide +kernel), true, rfl, false, rfl, iteF (rest _ _ ⟨rfl, rfl⟩)⟩
    | sure s =>
     obtain ⟨a, u, rfl, ha, hu⟩ := hv
     refine ⟨.ref a, rfl, _, _, _, _, false, rfl, .ty "str", .base (.tup ha), kit_ty (by decide +kernel), false, rfl, true, rfl, iteT ⟨.ref a, rfl, a, _, 0, _, rfl, rfl, .inl (.inl ha), atI_nat (j := 0) rfl, rfl, ?_⟩⟩
     rw [decide_eq_true rfl]
     exact rest _ _ ⟨rfl, rfl⟩
    | list s =>
     obtain ⟨a, u, rfl, ha, hu⟩ := hv
     refine ⟨.ref a, rfl, _, _, _, _, false, rfl, .ty "str", .base (.tup ha), kit_ty (by decide +kernel), false, rfl, true, rfl, iteT ⟨.ref a, rfl, a, _, 0, _, rfl, rfl, .inl (.inl ha), atI_nat (j := 0) rfl, rfl, ?_⟩⟩
     rw [decide_eq_false (show ¬ (V.str "list" = V.str "sure") by decide +kernel)]
     exact rest _ _ ⟨rfl, rfl⟩
  ·rintro σ H3 ⟨v, s, c, y5, y6, rfl, hv, hs, g3, B3⟩
   exact ⟨v, rfl, q v s H3 hv (okS_mono (by omega) hs) g3 B3⟩
end
end NW
namespace NW
open PySem PySem.Spec PyProof.Rows L2
section
variable {X : Cx}
theorem op_eq_dict0 (hu : X.A.units < cLine) : OpR X (compareOp .Eq) (fun x y H Q => ∃ (a b : Addr) (kvs : List (Key × V)), x = .ref a ∧ y = .ref b ∧ H a = some (.dK kvs) ∧ H b = some (.dK []) ∧ Q (.bl (kvs.length == 0)) H) := by
 intro pins s σ H x y v u Q I rx ry h
 obtain ⟨a, b, kvs, rfl, rfl, ea, eb, q⟩ := h
 cases rx
 cases ry
 have oa : ObjOk X.prog X.w H s.heap a (.dK kvs) := I.hok a _ ea
 have ob : ObjOk X.prog X.w H s.heap b (.dK []) := I.hok b _ eb
 obtain ⟨_, na, ua, pa, da⟩ := oa
 obtain ⟨_, nb, ub, pb, db⟩ := ob
 have la := pa.length
 have lb := pb.length
 refine PySem.W.keq_eq (knd := mixKind X.prog X.w) (r := true) na nb da db hu (fun e => hits_all pb pa fun p hp => ?_) (fin_bl I q ?_)
 ·have : kvs.length = 0 := by
   rw [la, e, ← lb]
   rfl
  rw [List.length_eq_zero_iff.mp this] at hp
  cases hp
 ·rw [← la, ← lb]
  simp
end
theorem len_le_of_sub {α : Type} [DecidableEq α] : ∀ {l m : List α}, l.Nodup → (∀ x ∈ l, x ∈ m) → l.length ≤ m.length
 | [], _, _, _ => Nat.zero_le _
 | a :: r, m, nd, h => by
  have hn := List.nodup_cons.mp nd
  have ha : a ∈ m := h a List.mem_cons_self
  have ih := len_le_of_sub (l := r) (m := m.erase a) hn.2 fun x hx => (List.mem_erase_of_ne (fun e => hn.1 (by rw [← e]; exact hx))).mpr (h x (List.mem_cons_of_mem _ hx))
  rw [List.length_erase_of_mem ha] at ih
  have := List.length_pos_of_mem ha
  rw [List.length_cons]
  omega
def putFl (fs : List Fld) (f : Fld) : List Fld := if f.1 ∈ fs.map (·.1) then fs.map (fun x => if x.1 = f.1 then f else x) else fs ++ [f]
theorem putFl_kv (fs : List Fld) (f : Fld) : putK (fkv fs) (Sum.inr f.1) f.2.1 = fkv (putFl fs f) := by
 unfold putFl
 by_cases h : f.1 ∈ fs.map (·.1)
 ·rw [if_pos h]
  unfold putK
  have e : ((fkv fs).any fun kv => decide (kv.1 = (Sum.inr f.1 : Key))) = true := by
   obtain ⟨x, hx, ex⟩ := List.mem_map.mp h
   exact List.any_eq_true.mpr ⟨_, List.mem_map.mpr ⟨x, hx, rfl⟩, decide_eq_true (congrArg Sum.inr ex)⟩
  rw [if_pos e]
  unfold fkv
  rw [List.map_map, List.map_map]
  refine List.map_congr_left fun x _ => ?_
  show (if (Sum.inr x.1 : Key) = Sum.inr f.1 then ((Sum.inr x.1 : Key), f.2.1) else ((Sum.inr x.1 : Key), x.2.1)) = _
  by_cases e2 : x.1 = f.1
  ·rw [if_pos (congrArg Sum.inr e2)]
   show _ = ((Sum.inr (if x.1 = f.1 then f else x).1 : Key), (if x.1 = f.1 then f else x).2.1)
   rw [if_pos e2, e2]
  ·rw [if_neg fun z => e2 (Sum.inr.inj z)]
   show _ = ((Sum.inr (if x.1 = f.1 then f else x).1 : Key), (if x.1 = f.1 then f else x).2.1)
   rw [if_neg e2]
 ·rw [if_neg h]
  exact put_snoc0 h
where
 put_snoc0 {fs : List Fld} {f : Fld} (h : f.1 ∉ fs.map (·.1)) : putK (fkv fs) (Sum.inr f.1) f.2.1 = fkv (fs ++ [f]) := by
  unfold fkv
  rw [putK_new _ (valV_out (f := fun f : Fld => f.1) (g := fun f => f.2.1) h), List.map_append]
  rfl
theorem putFl_keys (fs : List Fld) (f : Fld) : (putFl fs f).map (·.1) = if f.1 ∈ fs.map (·.1) then fs.map (·.1) else fs.map (·.1) ++ [f.1] := by
 unfold putFl
 by_cases h : f.1 ∈ fs.map (·.1)
 ·rw [if_pos h, if_pos h, List.map_map]
  refine List.map_congr_left fun x _ => ?_
  show (if x.1 = f.1 then f else x).1 = x.1
  split
  ·rename_i e
   exact e.symm
  ·rfl
 ·rw [if_neg h, if_neg h, List.map_append]
  rfl
theorem putFl_nd {fs : List Fld} {f : Fld} (h : (fs.map (·.1)).Nodup) : ((putFl fs f).map (·.1)).Nodup := by
 rw [putFl_keys]
 split
 ·exact h
 ·rename_i n
  rw [List.nodup_append]
  exact ⟨h, by simp, fun a ha b hb e => n (by rw [List.mem_singleton.mp hb] at e; rw [← e]; exact ha)⟩
theorem putFl_mem {fs : List Fld} {f x : Fld} (h : x ∈ putFl fs f) : x = f ∨ (x ∈ fs ∧ x.1 ≠ f.1) := by
 unfold putFl at h
 split at h
 ·obtain ⟨y, hy, e⟩ := List.mem_map.mp h
  split at e
  ·exact .inl e.symm
  ·rename_i n
   subst e
   exact .inr ⟨hy, n⟩
 ·rename_i n
  rcases List.mem_append.mp h with h | h
  ·exact .inr ⟨h, fun e => n (by rw [← e]; exact List.mem_map.mpr ⟨x, h, rfl⟩)⟩
  ·exact .inl (List.mem_singleton.mp h)
theorem putFl_has (fs : List Fld) (f : Fld) : f ∈ putFl fs f := by
 unfold putFl
 split
 ·rename_i h
  obtain ⟨x, hx, ex⟩ := List.mem_map.mp h
  exact List.mem_map.mpr ⟨x, hx, if_pos ex⟩
 ·exact List.mem_append_right _ (List.mem_singleton.mpr rfl)
theorem putFl_old {fs : List Fld} {f x : Fld} (h : x ∈ fs) (n : x.1 ≠ f.1) : x ∈ putFl fs f := by
 unfold putFl
 split
 ·exact List.mem_map.mpr ⟨x, h, if_neg n⟩
 ·exact List.mem_append_left _ h
theorem putFl_len {fs : List Fld} {f : Fld} : (putFl fs f).length ≤ fs.length + 1 := by
 unfold putFl
 split
 ·rw [List.length_map]; omega
 ·rw [List.length_append]; exact Nat.le_refl _
end NW
namespace NW
open PySem PySem.Spec PyProof.Rows L2
open TL (tl)
open StX (pa_star)
abbrev s_Lkind : Stmt := topS 62
abbrev N_Lkind : List Str := ["_law_box_here", "_law_faces", "_law_names", "_law_common", "_law_bases", "_law_most", "_law_table", "_law_face", "_law_field", "_law_k"]
theorem sc_Lkind : FnScope N_Lkind ["_law_box_here", "_law_faces", "_law_names", "_law_common", "_law_bases", "_law_most"] (defScope s_Lkind) := ⟨rfl, rfl, rfl, by decide +kernel, rfl, by decide +kernel, by decide +kernel⟩
theorem upd_id {H : Hp} {d : Addr} {u : HO} (h : H d = some u) : upd H d u = H := by
 funext b
 by_cases e : b = d
 ·subst e
  rw [upd_same, h]
 ·rw [upd_ne e]
theorem upd_comm {H : Hp} {a b : Addr} {o u : HO} (h : a ≠ b) : upd (upd H a o) b u = upd (upd H b u) a o := by
 funext c
 by_cases e1 : c = b
 ·subst e1
  rw [upd_same, upd_ne h.symm, upd_same]
 ·rw [upd_ne e1]
  by_cases e2 : c = a
  ·subst e2
   rw [upd_same, upd_same]
  ·rw [upd_ne e2, upd_ne e2, upd_ne e1]
def Com (nm : List Str) (cm : List (V × Shp)) (f : Fld) : Prop := ∃ j : Nat, nm[j]? = some f.1 ∧ cm[j]? = some f.2
theorem Com.eq {nm : List Str} {cm : List (V × Shp)} (nd : nm.Nodup) {f g : Fld} (hf : Com nm cm f) (hg : Com nm cm g) (e : f.1 = g.1) : f = g := by
 obtain ⟨j, h1, h2⟩ := hf
 obtain ⟨k, h3, h4⟩ := hg
 rw [e] at h1
 have : j = k := nd_ix nd h1 h3
 subst this
 rw [h2] at h4
 exact Prod.ext e (Option.some.inj h4)
structure KArg (H : Hp) (b r fl nl cl bs : Addr) (rows : List FRow) (nm : List Str) (cm : List (V × Shp)) (l : List Str) : Prop where
 B : Box H b r
 hfl : H fl = some (.lst (rows.map fun k => V.ref k.da))
 hnl : H nl = some (.lst (nm.map V.str))
 hcl : H cl = some (.lst (cm.map (·.1)))
 hbs : H bs = some (.lst (l.map V.str))
 nfl : fl ≠ b
 nnl : nl ≠ b
 ncl : cl ≠ b
 nbs : bs ≠ b
 rat : ∀ k ∈ rows, FldAt H k.da k.fds
 r3 : rows.length ≤ 3
 n5 : nm.length = 5
 nnd : nm.Nodup
 c5 : cm.length = 5
 csh : ∀ c ∈ cm, ShAt H c.1 c.2 ∧ okS l 4 false c.2
 com : ∀ k ∈ rows, ∀ f ∈ k.fds, Com nm cm f
 rnd : ∀ k ∈ rows, (k.fds.map (·.1)).Nodup
 l0 : 0 < l.length
 l1 : l.length ≤ 1000
theorem KArg.gr {H H' : Hp} {b r fl nl cl bs : Addr} {rows : List FRow} {nm : List Str} {cm : List (V × Shp)} {l : List Str} (A : KArg H b r fl nl cl bs rows nm cm l) (g : Gr b H H') (B' : Box H' b r) : KArg H' b r fl nl cl bs rows nm cm l := by
 obtain ⟨xs, e⟩ := A.B.lst
 exact ⟨B', g _ _ A.nfl A.hfl, g _ _ A.nnl A.hnl, g _ _ A.ncl A.hcl, g _ _ A.nbs A.hbs, A.nfl, A.nnl, A.ncl, A.nbs, fun k m => (A.rat k m).gr (Oth.lst e) g, A.r3, A.n5, A.nnd, A.c5, fun c m => ⟨(A.csh c m).1.grO (Oth.lst e) g, (A.csh c m).2⟩, A.com, A.rnd, A.l0, A.l1⟩
section
variable {P : Program} {w : World} {K : PySem.W.Frag} {mg : Str → Option Value} {base : Heap}

def spLkind : Sp := fun vs H Q _ => ∃ (b r fl nl cl bs : Addr) (rows : List FRow) (nm : List Str) (cm : List (V × Shp)) (l : List Str) (m : Nat), vs = [.ref b, .ref fl, .ref nl, .ref cl, .ref bs, .int m] ∧ KArg H b r fl nl cl bs rows nm cm l ∧ m ≤ 4 ∧
 ∀ (t : Addr) (fds : List Fld) H', H t = none → FldAt H' t fds → 1 ≤ fds.length → fds.length ≤ 5 → (fds.map (·.1)).Nodup → (∀ f ∈ fds, f.1 ∈ nm ∧ okS l 4 false f.2.2) → (∀ k ∈ rows, ∀ f ∈ k.fds, f ∈ fds) → Gr b H H' → Box H' b r → Q (.ref t) H'
theorem ok_Lkind {f f1 f2 : Addr} {fd fd1 fd2 : FuncData} (D : Df K mg "_law_kind" s_Lkind f fd ["_law_box_here", "_law_faces", "_law_names", "_law_common", "_law_bases", "_law_most"]) (D_Ldraw : Df K mg "_law_draw" s_Ldraw f1 fd1 ["_law_box_here", "_law_many"])
  (D_Lshape : Df K mg "_law_shape" s_Lshape f2 fd2 ["_law_box_here", "_law_bases", "_law_most"]) (T : Nms mg) : FnOk P w K mg base CX0 3 f fd ["_law_box_here", "_law_faces", "_law_names", "_law_common", "_law_bases", "_law_most"] spLkind := by
 have G_Ldraw : FnOk P w K mg base CX0 1 f1 fd1 ["_law_box_here", "_law_many"] spLdraw := ok_Ldraw D_Ldraw T
 have G_Lshape : FnOk P w K mg base CX0 2 f2 fd2 ["_law_box_here", "_law_bases", "_law_most"] spLshape := ok_Lshape D_Lshape D_Ldraw T
 refine D.F.ok sc_Lkind (fun vs H Q E h => ?_) (fun cdv A outer s H vs Q E hr h => ?_)
 ·obtain ⟨b, r, fl, nl, cl, bs, rows, nm, cm, l, m, rfl, _⟩ := h
  rfl
 ·obtain ⟨b, r, fl, nl, cl, bs, rows, nm, cm, l, m, rfl, G, hm, q⟩ := h
  have hu := hu_of hr
  have hu0 := Nat.lt_of_le_of_lt (Nat.le_add_right _ 1) hu
  refine ⟨_, (pss_cons (ps_set (i := 6) sc_Lkind.nd rfl (.inl rfl) pe_dnewK)
   (pss_cons (ps_for PassesOwn.never rfl (pi_list (pv 1)) (pg_name (i := 7) sc_Lkind.nd rfl (.inl rfl))
    (pss_one (ps_lock (ps_for PassesOwn.never rfl (pi_keys (pv 7)) (pg_name (i := 8) sc_Lkind.nd rfl (.inl rfl))
     (pss_one (ps_dput hu (pv 6) (pv 8) (pe_dget hu (pv 7) (pv 8) (fun _ _ => rfl)) rfl))))))
   (pss_cons (ps_for PassesOwn.never rfl (pi_range1 (by rfl) T.n_range (pa_cons pe_int pa_nil)) (pg_name (i := 9) sc_Lkind.nd rfl (.inl rfl))
    (pss_one (ps_if (PW.pt (pw_and (pt_cmp (pc_dnotin hu (pe_ix ix_list (pv 2) (pv 9) (fun _ _ => rfl)) (pv 6)) rfl) (pw_and1 (pt_cmpR op_eq (pe_call G_Ldraw (hr.mono (by decide)) (by rfl) D_Ldraw.g D_Ldraw.F.kp D_Ldraw.b .nil pass0 (pa_cons (pv 0) (pa_cons pe_int pa_nil))) pe_int (nomark _)))))
     (pss_cons (ps_dput hu (pv 6) (pe_ix ix_list (pv 2) (pv 9) (fun _ _ => rfl)) (pe_ix ix_list (pv 3) (pv 9) (fun _ _ => rfl)) rfl)
     (pss_one (ps_if (pt_cmpR op_eq (pe_call G_Ldraw (hr.mono (by decide)) (by rfl) D_Ldraw.g D_Ldraw.F.kp D_Ldraw.b .nil pass0 (pa_cons (pv 0) (pa_cons pe_int pa_nil))) pe_int (nomark _))
      (pss_one (ps_dput hu (pv 6) (pe_ix ix_list (pv 2) (pv 9) (fun _ _ => rfl)) (pe_call G_Lshape (hr.mono (by decide)) (by rfl) D_Lshape.g D_Lshape.F.kp D_Lshape.b .nil pass0 (pa_cons (pv 0) (pa_cons (pv 4) (pa_cons (pv 5) pa_nil)))) rfl))
      pss_nil)))
     pss_nil)))
   (pss_cons (ps_if (pt_cmpR (op_eq_dict0 hu0) (pv 6) pe_dnewK (nomark _))
    (pss_cons (ps_set (i := 9) sc_Lkind.nd rfl (.inl rfl) (pe_call G_Ldraw (hr.mono (by decide)) (by rfl) D_Ldraw.g D_Ldraw.F.kp D_Ldraw.b .nil pass0 (pa_cons (pv 0) (pa_cons pe_int pa_nil))))
    (pss_one (ps_dput hu (pv 6) (pe_ix ix_list (pv 2) (pv 9) (fun _ _ => rfl)) (pe_ix ix_list (pv 3) (pv 9) (fun _ _ => rfl)) rfl)))
    pss_nil)
   (pss_one (ps_ret (pv 6))))))), ?_⟩
  refine fun t nt => ?_
  have ntb : t ≠ b := G.B.neb nt
  have ntr : t ≠ r := G.B.ner nt
  refine ⟨.ref fl, rfl, fl, rfl, ⟨_, SqL.of (by rw [upd_ne (ne_of_none G.hfl nt)]; exact G.hfl)⟩, ?_⟩
  refine for_list (xs := rows.map fun k => V.ref k.da) (fun i σ H' => ∃ (y7 y8 y9 : Option V) (fds : List Fld), σ = [some (.ref b), some (.ref fl), some (.ref nl), some (.ref cl), some (.ref bs), some (.int m), some (.ref t), y7, y8, y9] ∧ H' = upd H t (.dK (fkv fds)) ∧ (fds.map (·.1)).Nodup ∧
   (∀ f ∈ fds, Com nm cm f ∧ ShAt H f.2.1 f.2.2) ∧ ∀ k ∈ rows.take i, ∀ f ∈ k.fds, f ∈ fds) ⟨none, none, none, [], rfl, rfl, List.nodup_nil, (fun f m => by cases m), (fun k m => by simp at m)⟩ ?_ ?_ ?_
  ·rintro i σ H' _ ⟨_, _, _, fds, _, rfl, _⟩
   exact SqL.of (by rw [upd_ne (ne_of_none G.hfl nt)]; exact G.hfl)
  ·rintro i x σ H' ex ⟨y7, y8, y9, fds, rfl, rfl, hnd, hf, hall⟩
   rw [List.getElem?_map] at ex
   cases er : rows[i]? with
   | none => rw [er] at ex; cases ex
   | some row =>
    rw [er] at ex
    cases ex
    have hm' := List.mem_of_getElem? er
    have hrat := G.rat row hm'
    have nrt : row.da ≠ t := ne_of_none hrat.at_ nt
    have hd : (upd H t (.dK (fkv fds))) row.da = some (.dK (fkv row.fds)) := by rw [upd_ne nrt]; exact hrat.at_
    refine ⟨row.da, .dK (fkv row.fds), hd, trivial, fun od => ⟨.ref row.da, rfl, row.da, od, rfl, .inl ⟨fkv row.fds, upd_same, ?_⟩⟩⟩
    have hrl : (fkv row.fds).length = row.fds.length := List.length_map ..
    refine for_it walk_keys (fun j σ H' => ∃ (y8 : Option V) (fds : List Fld), σ = [some (.ref b), some (.ref fl), some (.ref nl), some (.ref cl), some (.ref bs), some (.int m), some (.ref t), some (.ref row.da), y8, y9] ∧ H' = upd (upd H t (.dK (fkv fds))) row.da (.frz od (.dK (fkv row.fds))) ∧ (fds.map (·.1)).Nodup ∧
     (∀ f ∈ fds, Com nm cm f ∧ ShAt H f.2.1 f.2.2) ∧ (∀ k ∈ rows.take i, ∀ f ∈ k.fds, f ∈ fds) ∧ ∀ f ∈ row.fds.take j, f ∈ fds) ⟨y8, fds, rfl, rfl, hnd, hf, hall, (fun f m => by simp at m)⟩ ?_ ?_ ?_
    ·rintro j σ H' _ ⟨_, fds, _, rfl, _⟩
     exact upd_same
    ·rintro j x σ H3 H4 hj ⟨y8, fds, rfl, e3, hnd, hf, hall, hpre⟩ ⟨e4, k, v, e, rfl⟩
     subst e4
     subst e3
     obtain ⟨f, ef, rfl, rfl⟩ := fkv_at e
     have fm := List.mem_of_getElem? ef
     have htt : (upd (upd H t (.dK (fkv fds))) row.da (.frz od (.dK (fkv row.fds)))) t = some (.dK (fkv fds)) := by rw [upd_ne nrt.symm, upd_same]
     have few : fds.length ≤ 5 := by
      have := len_le_of_sub hnd (m := nm) fun z hz => by
       obtain ⟨y, hy, rfl⟩ := List.mem_map.mp hz
       obtain ⟨⟨j, h1, _⟩, _⟩ := hf y hy
       exact List.mem_of_getElem? h1
      rw [List.length_map, G.n5] at this
      exact this
     refine ⟨.ref row.da, rfl, .str f.1, rfl, row.da, f.2.1, rfl, .inl ⟨fkv row.fds, .inr f.1, .inr ⟨od, upd_same⟩, rfl, (fkv_val (G.rnd row hm') fm).symm⟩, .ref t, rfl, .str f.1, rfl, t, _, rfl, DPut.k (k := Sum.inr f.1) htt ?_, ?_⟩
     ·rw [show (fkv fds).length = fds.length from List.length_map ..]
      exact Nat.lt_of_le_of_lt (show fds.length ≤ 1000 by omega) (by decide)
     ·refine ⟨_, putFl fds f, rfl, ?_, putFl_nd hnd, fun x hx => ?_, fun k hk x hx => ?_, fun x hx => ?_⟩
      ·rw [putFl_kv, upd_comm nrt, upd_upd, upd_comm nrt.symm]
      ·rcases putFl_mem hx with rfl | ⟨hx, _⟩
       ·exact ⟨G.com row hm' _ fm, hrat.sh _ fm⟩
       ·exact hf x hx
      ·by_cases ek : x.1 = f.1
       ·rw [Com.eq G.nnd (hf x (hall k hk x hx)).1 (G.com row hm' f fm) ek]
        exact putFl_has fds f
       ·exact putFl_old (hall k hk x hx) ek
      ·rw [List.take_add_one, ef] at hx
       rcases List.mem_append.mp hx with hx | hx
       ·by_cases ek : x.1 = f.1
        ·rw [Com.eq G.nnd (hf x (hpre x hx)).1 (G.com row hm' f fm) ek]
         exact putFl_has fds f
        ·exact putFl_old (hpre x hx) ek
       ·obtain rfl : x = f := by simpa using hx
        exact putFl_has fds _
    ·rintro σ H3 ⟨y8, fds, rfl, e3, hnd, hf, hall, hpre⟩
     subst e3
     refine ⟨upd_same, some (.ref row.da), y8, y9, fds, rfl, ?_, hnd, hf, fun k hk x hx => ?_⟩
     ·rw [upd_upd]
      exact upd_id (by rw [upd_ne nrt]; exact hrat.at_)
     ·rw [List.take_add_one, er] at hk
      rcases List.mem_append.mp hk with hk | hk
      ·exact hall k hk x hx
      ·obtain rfl : k = row := by simpa using hk
       rw [hrl, List.take_length] at hpre
       exact hpre x hx
  ·rintro σ H1 ⟨y7, y8, y9, fds, rfl, e1, hnd, hf, hall⟩
   rw [List.length_map, List.take_length] at hall
   have gt : Gr b H H1 := by rw [e1]; exact Gr.new nt
   have B1 : Box H1 b r := by rw [e1]; exact G.B.new nt
   have ht1 : H1 t = some (.dK (fkv fds)) := by rw [e1]; exact upd_same
   obtain ⟨bx, hbx⟩ := G.B.lst
   have hf1 : ∀ f ∈ fds, f.1 ∈ nm ∧ okS l 4 false f.2.2 ∧ ShAt H1 f.2.1 f.2.2 := fun f m => by
    obtain ⟨⟨j, h1, h2⟩, h3⟩ := hf f m
    exact ⟨List.mem_of_getElem? h1, (G.csh _ (List.mem_of_getElem? h2)).2, h3.grO (Oth.lst hbx) gt⟩
   clear e1 hf
   refine ⟨5, rfl, by decide, by decide, for_range (lo := 0) (n := 5) (fun i σ H' => ∃ (y7 y8 y9 : Option V) (fds : List Fld), σ = [some (.ref b), some (.ref fl), some (.ref nl), some (.ref cl), some (.ref bs), some (.int m), some (.ref t), y7, y8, y9] ∧ H' t = some (.dK (fkv fds)) ∧ (fds.map (·.1)).Nodup ∧
    (∀ f ∈ fds, f.1 ∈ nm ∧ okS l 4 false f.2.2 ∧ ShAt H' f.2.1 f.2.2) ∧ (∀ k ∈ rows, ∀ f ∈ k.fds, f ∈ fds) ∧ Gr b H H' ∧ Box H' b r) ⟨y7, y8, y9, fds, rfl, ht1, hnd, hf1, hall, gt, B1⟩ ?_ ?_⟩
   ·rintro i σ H2 hi ⟨y7, y8, y9, fds, rfl, ht, hnd, hf, hall, g, B2⟩
    have A2 := G.gr g B2
    have hni : nm[i]? = some (nm[i]'(by rw [G.n5]; exact hi)) := List.getElem?_eq_getElem _
    have hci : cm[i]? = some (cm[i]'(by rw [G.c5]; exact hi)) := List.getElem?_eq_getElem _
    generalize nm[i]'(by rw [G.n5]; exact hi) = z at hni
    generalize cm[i]'(by rw [G.c5]; exact hi) = c at hci
    have hzm := List.mem_of_getElem? hni
    have hcm := List.mem_of_getElem? hci
    have few : ∀ {fds : List Fld}, (fds.map (·.1)).Nodup → (∀ f ∈ fds, f.1 ∈ nm) → fds.length ≤ 5 := fun {fds} h1 h2 => by
     have := len_le_of_sub h1 (m := nm) fun z hz => by
      obtain ⟨y, hy, rfl⟩ := List.mem_map.mp hz
      exact h2 y hy
     rw [List.length_map, G.n5] at this
     exact this
    have atN : ∀ {H' : Hp}, H' nl = some (.lst (nm.map V.str)) → SqL K H' nl (nm.map V.str) := fun h => SqL.of h
    have an : atI (nm.map V.str) (0 + (i : Int)) = some (.str z) := at_of (j := i) (by omega) (by rw [List.getElem?_map, hni]; rfl)
    have ac : atI (cm.map (·.1)) (0 + (i : Int)) = some c.1 := at_of (j := i) (by omega) (by rw [List.getElem?_map, hci]; rfl)
    refine ⟨.ref nl, rfl, _, rfl, nl, _, _, .str z, rfl, rfl, SqL.of A2.hnl, an, .ref t, rfl, t, valV (fkv fds) (Sum.inr z), rfl, DGet.k (k := Sum.inr z) ht, _, rfl, ?_⟩
    by_cases hz : z ∈ fds.map (·.1)
    ·-- it is there
     have : (valV (fkv fds) (Sum.inr z)).isSome = true := by
      obtain ⟨f, hfm, rfl⟩ := List.mem_map.mp hz
      rw [fkv_val hnd hfm]
      rfl
     rw [this]
     exact iteF ⟨y7, y8, _, fds, rfl, ht, hnd, hf, hall, g, B2⟩
    ·have : valV (fkv fds) (Sum.inr z) = none := valV_out (f := fun f : Fld => f.1) (g := fun f => f.2.1) hz
     rw [this]
     refine iteT ⟨.ref b, rfl, b, r, 2, rfl, B2, by decide, by decide, fun d H3 d0 d1 g3 B3 => ⟨rfl, _, rfl, ite2 (fun e => ?_) (fun e => ?_)⟩⟩
     ·have A3 := A2.gr g3 B3
      have ht3 := g3 _ _ ntb ht
      obtain ⟨bx, hbx2⟩ := B2.lst
      have hf3 : ∀ f ∈ fds, f.1 ∈ nm ∧ okS l 4 false f.2.2 ∧ ShAt H3 f.2.1 f.2.2 := fun f m => ⟨(hf f m).1, (hf f m).2.1, (hf f m).2.2.grO (Oth.lst hbx2) g3⟩
      have fl5 := few hnd fun f m => (hf f m).1
      refine ⟨.ref cl, rfl, _, rfl, cl, _, _, c.1, rfl, rfl, SqL.of A3.hcl, ac, .ref t, rfl, .ref nl, rfl, _, rfl, nl, _, _, .str z, rfl, rfl, SqL.of A3.hnl, an, t, _, rfl, DPut.k (k := Sum.inr z) ht3 ?_, ?_⟩
      ·rw [show (fkv fds).length = fds.length from List.length_map ..]
       exact Nat.lt_of_le_of_lt (show fds.length ≤ 1000 by omega) (by decide)
      have g4 : Gr b H (upd H3 t (.dK (putK (fkv fds) (Sum.inr z) c.1))) := (g.trans g3).upd nt
      have B4 : Box (upd H3 t (.dK (putK (fkv fds) (Sum.inr z) c.1))) b r := B3.upd ntb ntr
      have ht4 : (upd H3 t (.dK (putK (fkv fds) (Sum.inr z) c.1))) t = some (.dK (fkv (putFl fds (z, c)))) := by rw [upd_same]; exact congrArg (fun z => some (HO.dK z)) (putFl_kv fds (z, c))
      have sh4 : ∀ {v : V} {s : Shp}, ShAt H3 v s → ShAt (upd H3 t (.dK (putK (fkv fds) (Sum.inr z) c.1))) v s := fun h => h.gr (xs := []) (.inr ⟨_, ht3⟩) Gr.box
      have hf4 : ∀ f ∈ putFl fds (z, c), f.1 ∈ nm ∧ okS l 4 false f.2.2 ∧ ShAt (upd H3 t (.dK (putK (fkv fds) (Sum.inr z) c.1))) f.2.1 f.2.2 := fun f m => by
       rcases putFl_mem m with rfl | ⟨m, _⟩
       ·exact ⟨hzm, (A3.csh c hcm).2, sh4 (A3.csh c hcm).1⟩
       ·exact ⟨(hf3 f m).1, (hf3 f m).2.1, sh4 (hf3 f m).2.2⟩
      have hnd4 := putFl_nd (f := (z, c)) hnd
      have hall4 : ∀ k ∈ rows, ∀ f ∈ k.fds, f ∈ putFl fds (z, c) := fun k hk f hfk => putFl_old (hall k hk f hfk) fun e => hz (by rw [← (show f.1 = z from e)]; exact List.mem_map.mpr ⟨f, hall k hk f hfk, rfl⟩)
      generalize upd H3 t (.dK (putK (fkv fds) (Sum.inr z) c.1)) = H4 at g4 B4 ht4 hf4
      refine ⟨.ref b, rfl, b, r, 2, rfl, B4, by decide, by decide, fun d2 H5 d20 d21 g5 B5 => ⟨rfl, _, rfl, ite2 (fun e2 => ?_) (fun e2 => ?_)⟩⟩
      ·have A5 := (G.gr g4 B4).gr g5 B5
       refine ⟨.ref b, rfl, .ref bs, rfl, .int m, rfl, b, r, bs, l, m, rfl, B5, A5.hbs, G.nbs, G.l0, G.l1, hm, fun v s H6 hv hs g6 B6 => ?_⟩
       have A6 := A5.gr g6 B6
       have ht6 := (g5.trans g6) _ _ ntb ht4
       have fl6 := few hnd4 fun f m => (hf4 f m).1
       refine ⟨.ref t, rfl, .ref nl, rfl, _, rfl, nl, _, _, .str z, rfl, rfl, SqL.of A6.hnl, an, t, _, rfl, DPut.k (k := Sum.inr z) ht6 ?_, ?_⟩
       ·rw [show (fkv (putFl fds (z, c))).length = (putFl fds (z, c)).length from List.length_map ..]
        exact Nat.lt_of_le_of_lt (show (putFl fds (z, c)).length ≤ 1000 by omega) (by decide)
       obtain ⟨bx4, hbx4⟩ := B4.lst
       have sh7 : ∀ {v' : V} {s' : Shp}, ShAt H6 v' s' → ShAt (upd H6 t (.dK (putK (fkv (putFl fds (z, c))) (Sum.inr z) v))) v' s' := fun h => h.gr (xs := []) (.inr ⟨_, ht6⟩) Gr.box
       refine ⟨y7, y8, _, putFl (putFl fds (z, c)) (z, v, s), rfl, ?_, putFl_nd hnd4, fun f m => ?_, fun k hk f hfk => ?_, ((g4.trans g5).trans g6).upd nt, B6.upd ntb ntr⟩
       ·rw [upd_same]
        exact congrArg (fun z => some (HO.dK z)) (putFl_kv (putFl fds (z, c)) (z, v, s))
       ·rcases putFl_mem m with rfl | ⟨m, _⟩
        ·exact ⟨hzm, hs, sh7 hv⟩
        ·exact ⟨(hf4 f m).1, (hf4 f m).2.1, sh7 ((hf4 f m).2.2.grO (Oth.lst hbx4) (g5.trans g6))⟩
       ·exact putFl_old (hall4 k hk f hfk) fun e => hz (by rw [← (show f.1 = z from e)]; exact List.mem_map.mpr ⟨f, hall k hk f hfk, rfl⟩)
      ·obtain ⟨bx4, hbx4⟩ := B4.lst
       exact ⟨y7, y8, _, putFl fds (z, c), rfl, g5 _ _ ntb ht4, hnd4, fun f m => ⟨(hf4 f m).1, (hf4 f m).2.1, (hf4 f m).2.2.grO (Oth.lst hbx4) g5⟩, hall4, g4.trans g5, B5⟩
     ·obtain ⟨bx, hbx2⟩ := B2.lst
      exact ⟨y7, y8, _, fds, rfl, g3 _ _ ntb ht, hnd, fun f m => ⟨(hf f m).1, (hf f m).2.1, (hf f m).2.2.grO (Oth.lst hbx2) g3⟩, hall, g.trans g3, B3⟩
   ·rintro σ H2 ⟨y7, y8, y9, fds, rfl, ht, hnd, hf, hall, g, B2⟩
    have few : ∀ {fds : List Fld}, (fds.map (·.1)).Nodup → (∀ f ∈ fds, f.1 ∈ nm) → fds.length ≤ 5 := fun {fds} h1 h2 => by
     have := len_le_of_sub h1 (m := nm) fun z hz => by
      obtain ⟨y, hy, rfl⟩ := List.mem_map.mp hz
      exact h2 y hy
     rw [List.length_map, G.n5] at this
     exact this
    have fl5 := few hnd fun f m => (hf f m).1
    refine ⟨.ref t, rfl, fun p np => ⟨t, p, fkv fds, rfl, rfl, by rw [upd_ne (ne_of_none ht np)]; exact ht, upd_same, _, rfl, ite2 (fun e => ?_) (fun e => ?_)⟩⟩
    ·have e0 : fds = [] := by
      have h1 : (fkv fds).length = 0 := eq_of_beq e
      rw [show (fkv fds).length = fds.length from List.length_map ..] at h1
      exact List.length_eq_zero_iff.mp h1
     subst e0
     have g3 : Gr b H (upd H2 p (.dK [])) := g.trans (Gr.new np)
     have B3 : Box (upd H2 p (.dK [])) b r := B2.new np
     have ht3 : (upd H2 p (.dK [])) t = some (.dK (fkv [])) := by rw [upd_ne (ne_of_none ht np)]; exact ht
     generalize upd H2 p (.dK []) = H3 at g3 B3 ht3
     refine ⟨.ref b, rfl, b, r, 5, rfl, B3, by decide, by decide, fun k H4 k0 k1 g4 B4 => ?_⟩
     obtain ⟨k, rfl⟩ := Int.eq_ofNat_of_zero_le k0
     have hk5 : k < 5 := by omega
     have A4 := (G.gr g3 B3).gr g4 B4
     have hni : nm[k]? = some (nm[k]'(by rw [G.n5]; exact hk5)) := List.getElem?_eq_getElem _
     have hci : cm[k]? = some (cm[k]'(by rw [G.c5]; exact hk5)) := List.getElem?_eq_getElem _
     generalize nm[k]'(by rw [G.n5]; exact hk5) = z at hni
     generalize cm[k]'(by rw [G.c5]; exact hk5) = c at hci
     have an : atI (nm.map V.str) (k : Int) = some (.str z) := atI_nat (by rw [List.getElem?_map, hni]; rfl)
     have ac : atI (cm.map (·.1)) (k : Int) = some c.1 := atI_nat (by rw [List.getElem?_map, hci]; rfl)
     have ht4 := g4 _ _ ntb ht3
     refine ⟨.ref cl, rfl, _, rfl, cl, _, _, c.1, rfl, rfl, SqL.of A4.hcl, ac, .ref t, rfl, .ref nl, rfl, _, rfl, nl, _, _, .str z, rfl, rfl, SqL.of A4.hnl, an, t, _, rfl, DPut.k (k := Sum.inr z) ht4 (by show 0 < sizeLine; decide), ?_⟩
     have sh5 := (A4.csh c (List.mem_of_getElem? hci)).1.gr (xs := []) (H' := upd H4 t (.dK (putK (fkv []) (Sum.inr z) c.1))) (.inr ⟨_, ht4⟩) Gr.box
     refine ⟨.ref t, rfl, q t [(z, c)] _ nt ⟨?_, fun f m => ?_⟩ (Nat.le_refl 1) (by show 1 ≤ 5; decide) (by simp) (fun f m => ?_) (fun k' hk' f hf' => absurd (hall k' hk' f hf') (by simp)) ((g3.trans g4).upd nt) (B4.upd ntb ntr)⟩
     ·rw [upd_same]
      rfl
     ·obtain rfl := List.mem_singleton.mp m
      exact sh5
     ·obtain rfl := List.mem_singleton.mp m
      exact ⟨List.mem_of_getElem? hni, (A4.csh c (List.mem_of_getElem? hci)).2⟩
    ·have h1 : fds ≠ [] := fun z => by
      subst z
      exact e rfl
     have hp : 1 ≤ fds.length := List.length_pos_iff.mpr h1
     have sm := same_new (o := .dK []) np
     refine ⟨.ref t, rfl, q t fds _ nt ⟨sm _ _ ht, fun f m => (hf f m).2.2.same sm⟩ hp fl5 hnd (fun f m => ⟨(hf f m).1, (hf f m).2.1⟩) hall (g.trans (Gr.new np)) (B2.new np)⟩
end
end NW
namespace NW
open PySem PySem.Spec PyProof.Rows L2
open TL (tl)
abbrev s_Lwords : Stmt := topS 60
abbrev N_Lwords : List Str := ["_law_box_here", "_law_many", "_law_letters", "_law_shift", "_law_front", "_law_words_here", "_law_k", "_law_size", "_law_rest", "_law_sign", "_law_word", "_law_j"]
theorem sc_Lwords : FnScope N_Lwords ["_law_box_here", "_law_many"] (defScope s_Lwords) := ⟨rfl, rfl, rfl, by decide +kernel, rfl, by decide +kernel, by decide +kernel⟩
section
variable {P : Program} {w : World} {K : PySem.W.Frag} {mg : Str → Option Value} {base : Heap}
def spLwords : Sp := fun vs H Q _ => ∃ (b r : Addr) (n : Nat), vs = [.ref b, .int n] ∧ Box H b r ∧ n ≤ 26 ∧
 ∀ (ws : List Str) (p : Addr) H', ws.length = n → (∀ z ∈ ws, IsName z ∧ z ≠ "text" ∧ z ≠ "number") → ws.Nodup → Gr b H H' → Box H' b r → H p = none → H' p = some (.lst (ws.map V.str)) → Q (.ref p) H'
theorem ok_Lwords {f f1 : Addr} {fd fd1 : FuncData} (D : Df K mg "_law_words" s_Lwords f fd ["_law_box_here", "_law_many"]) (D_Ldraw : Df K mg "_law_draw" s_Ldraw f1 fd1 ["_law_box_here", "_law_many"]) (T : Nms mg) : FnOk P w K mg base CX0 2 f fd ["_law_box_here", "_law_many"] spLwords := by
 have G_Ldraw : FnOk P w K mg base CX0 1 f1 fd1 ["_law_box_here", "_law_many"] spLdraw := ok_Ldraw D_Ldraw T
 refine D.F.ok sc_Lwords (fun vs H Q E h => ?_) (fun cdv A outer s H vs Q E hr h => ?_)
 ·obtain ⟨b, r, m, rfl, _⟩ := h
  rfl
 ·obtain ⟨b, r, n, rfl, B, hn, q⟩ := h
  refine ⟨_, (pss_cons (ps_set (i := 2) sc_Lwords.nd rfl (.inr rfl) pe_str)
   (pss_cons (ps_set (i := 3) sc_Lwords.nd rfl (.inl rfl) (pe_call G_Ldraw (hr.mono (by decide)) (by rfl) D_Ldraw.g D_Ldraw.F.kp D_Ldraw.b .nil pass0 (pa_cons (pv 0) (pa_cons pe_int pa_nil))))
   (pss_cons (ps_set (i := 4) sc_Lwords.nd rfl (.inl rfl) (pe_call G_Ldraw (hr.mono (by decide)) (by rfl) D_Ldraw.g D_Ldraw.F.kp D_Ldraw.b .nil pass0 (pa_cons (pv 0) (pa_cons pe_int pa_nil))))
   (pss_cons (ps_set (i := 5) sc_Lwords.nd rfl (.inl rfl) (pe_lst pa_nil))
   (pss_cons (ps_for PassesOwn.never rfl (pi_range1 (by rfl) T.n_range (pa_cons (pv 1) pa_nil)) (pg_name (i := 6) sc_Lwords.nd rfl (.inl rfl))
    (pss_cons (ps_set (i := 7) sc_Lwords.nd rfl (.inl rfl) (pe_ix ix_list (pe_lst (pa_cons pe_int (pa_cons pe_int (pa_cons pe_int (pa_cons pe_int pa_nil))))) (pe_call G_Ldraw (hr.mono (by decide)) (by rfl) D_Ldraw.g D_Ldraw.F.kp D_Ldraw.b .nil pass0 (pa_cons (pv 0) (pa_cons pe_int pa_nil))) (fun _ _ => rfl)))
    (pss_cons (ps_set (i := 8) sc_Lwords.nd rfl (.inl rfl) (pe_join pe_str (pe_lc (own := [("_law_j", 11)]) (g := (gName 11)) (tt := tYes) rfl sc_Lwords.nd (pi_range1 (by rfl) T.n_range (pa_cons (pv 7) pa_nil)) (blkOk_by (own := [("_law_j", 11)]) (N := N_Lwords) (sc := defScope s_Lwords) (by decide +kernel)) (fun _ _ _ _ _ => (pg_name (i := 11) sc_Lwords.nd rfl (.inl rfl))) (fun _ _ _ _ _ => pts_nil) (fun _ _ _ _ _ => (pe_ix ix_str (pv 2) (pe_call G_Ldraw (hr.mono (by decide)) (by rfl) D_Ldraw.g D_Ldraw.F.kp D_Ldraw.b .nil pass0 (pa_cons (pv 0) (pa_cons pe_int pa_nil))) (fun _ _ => rfl))))))
    (pss_cons (ps_set (i := 9) sc_Lwords.nd rfl (.inl rfl) (pe_ix ix_str (pv 2) (pe_op op_modN (pe_callTy call_int1 (by rfl) T.n_int (by decide +kernel) (pa_cons (pe_op op_add (pv 3) (pv 6)) pa_nil)) pe_int) (fun _ _ => rfl)))
    (pss_cons (ps_set (i := 10) sc_Lwords.nd rfl (.inl rfl) (pe_ix ix_list (pe_lst (pa_cons (pe_op op_add_str (pv 8) (pv 9)) (pa_cons (pe_op op_add_str (pv 9) (pv 8)) pa_nil))) (pv 4) (fun _ _ => rfl)))
    (pss_one (ps_expr (pe_bm PySem.F.plainAttrs_list PySem.F.slot_list_append PySem.F.type_list_append mt_append (pv 5) (pa_cons (pe_ix ix_list (pe_lst (pa_cons (pv 10) (pa_cons (pv 9) pa_nil))) (pe_callTy call_int1 (by rfl) T.n_int (by decide +kernel) (pa_cons (pe_or (pe_cmpR op_eq (pv 10) pe_str (nomark _)) (pe_one (pe_cmpR op_eq (pv 10) pe_str (nomark _)))) pa_nil)) (fun _ _ => rfl)) pa_nil)))))))))
   (pss_one (ps_ret (pv 5)))))))), ?_⟩

  refine ⟨.ref b, rfl, b, r, 26, rfl, B, by decide, by decide, fun sh H1 h10 h11 g1 B1 => ?_⟩
  refine ⟨.ref b, rfl, b, r, 2, rfl, B1, by decide, by decide, fun fr H2 h20 h21 g2 B2 => ?_⟩
  refine ⟨Nat.zero_le _, fun p np => ?_⟩
  obtain ⟨sh, rfl⟩ := Int.eq_ofNat_of_zero_le h10
  obtain ⟨fr, rfl⟩ := Int.eq_ofNat_of_zero_le h20
  have hsh : sh < 26 := by omega
  have hfr : fr < 2 := by omega
  have g02 : Gr b H H2 := g1.trans g2
  have npb := B2.neb np
  have npr := B2.ner np
  have np0 : H p = none := g02.free npb np
  refine ⟨.int n, rfl, n, rfl, by omega, by omega, for_range (lo := 0) (n := n) (fun i σ H' => ∃ y6 y7 y8 y9 y10 ws, σ = [some (.ref b), some (.int n), some (.str LET), some (.int sh), some (.int fr), some (.ref p), y6, y7, y8, y9, y10, none] ∧ ws.length = i ∧ WordsOk fr sh ws ∧ Gr b H H' ∧ Box H' b r ∧ H' p = some (.lst (ws.map V.str))) ?_ ?_ ?_⟩
  ·exact ⟨none, none, none, none, none, [], rfl, rfl, fun k h => absurd h (Nat.not_lt_zero _), g02.trans (Gr.new np), B2.new np, upd_same⟩
  ·rintro i σ H3 hi ⟨y6, y7, y8, y9, y10, ws, rfl, hl, hw, g3, B3, e3⟩
   refine ⟨by show 4 ≤ sizeLine; decide, fun q1 nq1 => ?_⟩
   have n1b := B3.neb nq1
   refine ⟨.ref b, rfl, b, r, 4, rfl, B3.new nq1, by decide, by decide, fun d H4 d0 d1 g4 B4 => ?_⟩
   have hd : ∃ sz : Nat, sz ≤ 7 ∧ atI [V.int 0, V.int 1, V.int 2, V.int 7] d = some (.int sz) := by
    obtain ⟨j, rfl⟩ := Int.eq_ofNat_of_zero_le d0
    have hj : j < 4 := by omega
    match j, hj with
    | 0, _ => exact ⟨0, by decide, rfl⟩
    | 1, _ => exact ⟨1, by decide, rfl⟩
    | 2, _ => exact ⟨2, by decide, rfl⟩
    | 3, _ => exact ⟨7, by decide, rfl⟩
   obtain ⟨sz, hsz, hat⟩ := hd
   refine ⟨q1, _, d, .int sz, rfl, rfl, SqL.of (g4 _ _ n1b upd_same), hat, ?_⟩
   have g04 : Gr b H H4 := (g3.trans (Gr.new nq1)).trans g4
   have e4 : H4 p = some (.lst (ws.map V.str)) := g4 _ _ npb (by rw [upd_ne (ne_of_none e3 nq1)]; exact e3)
   refine ⟨⟨_, rfl⟩, .int sz, rfl, sz, rfl, by omega, by omega, fun D nD => ?_⟩
   have nDb := B4.neb nD
   have nDp : p ≠ D := ne_of_none e4 nD
   refine lc_range (lo := 0) (n := sz) (fun j H' => ∃ cs : List Nat, cs.length = j ∧ (∀ c ∈ cs, 97 ≤ c ∧ c ≤ 122) ∧ Gr b H H' ∧ Box H' b r ∧ H' p = some (.lst (ws.map V.str)) ∧ H' D = some (.lst ((cs.map fun c => sgn c).map V.str))) ?_ ?_ ?_
   ·exact ⟨[], rfl, (fun c h => by cases h), g04.trans (Gr.new nD), B4.new nD, by rw [upd_ne nDp]; exact e4, upd_same⟩
   ·rintro j H5 hj ⟨cs, hcl, hcs, g5, B5, e5, eD⟩
    refine ⟨rfl, lcT ?_⟩
    refine ⟨.str LET, rfl, .ref b, rfl, b, r, 26, rfl, B5, by decide, by decide, fun c H6 c0 c1 g6 B6 => ?_⟩
    obtain ⟨c, rfl⟩ := Int.eq_ofNat_of_zero_le c0
    refine ⟨LET, c, 97 + c, rfl, rfl, let_len, atI_nat (let_at (by omega)), ?_⟩
    have eD6 := g6 _ _ nDb eD
    refine ⟨_, eD6, ?_, cs ++ [97 + c], ?_, ?_, ?_, ?_, ?_, ?_⟩
    ·rw [List.length_map, List.length_map]
     exact Nat.lt_of_le_of_lt (show cs.length ≤ 1000 by omega) (by decide)
    ·rw [List.length_append, hcl]; rfl
    ·intro x hx
     rcases List.mem_append.mp hx with hx | hx
     ·exact hcs x hx
     ·have := List.mem_singleton.mp hx
      omega
    ·exact (g5.trans g6).upd (g04.free nDb nD)
    ·exact B6.upd nDb (B4.ner nD)
    ·rw [upd_ne nDp]
     exact g6 _ _ npb e5
    ·rw [upd_same, List.map_append, List.map_append]
     rfl
   ·rintro H5 ⟨cs, hcl, hcs, g5, B5, e5, eD⟩
    refine ⟨"", D, cs.map fun c => sgn c, rfl, rfl, .inl (SqL.of eD), ?_, ?_⟩
    ·rw [show ((cs.map fun c => sgn c).map fun x => x.length) = (cs.map fun c => sgn c).map Str.length from rfl, sgn_sum, List.length_map]
     have : ("" : Str).length = 0 := by decide +kernel
     rw [this]
     omega
    generalize hrest : Txt.join "" (cs.map fun c => sgn c) = rest
    have htl : tl rest = cs := by rw [← hrest, joinE]
    have hrl : rest.length = cs.length := by rw [len_tl, htl]
    have hm := fmod_range (a := (sh : Int) + (0 + i)) (show (0 : Int) < 26 by decide)
    have em : ((sh : Int) + (0 + i)).fmod 26 = (((sh + i) % 26 : Nat) : Int) := by
     rw [Int.fmod_eq_emod_of_nonneg _ (by decide)]
     omega
    refine ⟨.str LET, rfl, .int sh, rfl, .int (0 + i), rfl, _, _, rfl, rfl, .inl ⟨_, rfl, _, _, rfl, rfl, nz rfl, LET, _, 97 + (sh + i) % 26, rfl, rfl, let_len, ?_, ?_⟩⟩
    ·show atI LET.cps.toList (((sh : Int) + (0 + i)).fmod 26) = _
     rw [em]
     exact atI_nat (let_at (Nat.mod_lt _ (by decide)))
    have ht26 : (sh + i) % 26 < 26 := Nat.mod_lt _ (by decide)
    have lens : rest.length + (sgn (97 + (sh + i) % 26)).length ≤ sizeLine := by
     rw [hrl, show (sgn (97 + (sh + i) % 26)).length = 1 from rfl]
     exact Nat.le_trans (show cs.length + 1 ≤ 1000 by omega) (by decide)
    refine ⟨.str rest, rfl, .str (sgn _), rfl, _, _, rfl, rfl, lens, .str (sgn _), rfl, .str rest, rfl, _, _, rfl, rfl, by omega, ?_⟩
    refine ⟨by show 2 ≤ sizeLine; decide, fun q2 nq2 => ?_⟩
    generalize ht : (sh + i) % 26 = t at *
    refine ⟨.int fr, rfl, q2, _, fr, .str (if fr = 0 then rest ++ sgn (97 + t) else sgn (97 + t) ++ rest), rfl, rfl, SqL.of upd_same, ?_, ?_⟩
    ·match fr, hfr with
     | 0, _ => rfl
     | 1, _ => rfl
    have n2p : p ≠ q2 := ne_of_none e5 nq2
    have e6 : (upd H5 q2 (.lst [V.str (rest ++ sgn (97 + t)), V.str (sgn (97 + t) ++ rest)])) p = some (.lst (ws.map V.str)) := by rw [upd_ne n2p]; exact e5
    have g6 : Gr b H (upd H5 q2 (.lst [V.str (rest ++ sgn (97 + t)), V.str (sgn (97 + t) ++ rest)])) := g5.trans (Gr.new nq2)
    have B6 : Box (upd H5 q2 (.lst [V.str (rest ++ sgn (97 + t)), V.str (sgn (97 + t) ++ rest)])) b r := B5.new nq2
    generalize upd H5 q2 (.lst [V.str (rest ++ sgn (97 + t)), V.str (sgn (97 + t) ++ rest)]) = H6 at *
    generalize hword : (if fr = 0 then rest ++ sgn (97 + t) else sgn (97 + t) ++ rest) = word
    refine ⟨.ref p, rfl, .inl ⟨rfl, _, SqL.of e6⟩, .str word, rfl, .str (sgn _), rfl, by show 2 ≤ sizeLine; decide, fun q3 nq3 => ?_⟩
    have n3p : p ≠ q3 := ne_of_none e6 nq3
    have e7 : (upd H6 q3 (.lst [V.str word, V.str (sgn (97 + t))])) p = some (.lst (ws.map V.str)) := by rw [upd_ne n3p]; exact e6
    have fin : ∀ z, GoodW fr t z → ∃ y6 y7 y8 y9 y10 ws', ([some (V.ref b), some (V.int n), some (V.str LET), some (V.int sh), some (V.int fr), some (V.ref p), some (V.int (0 + i)), some (V.int sz), some (V.str rest), some (V.str (sgn (97 + t))), some (V.str word), none] : L2.St) = [some (V.ref b), some (V.int n), some (V.str LET), some (V.int sh), some (V.int fr), some (V.ref p), y6, y7, y8, y9, y10, none] ∧ ws'.length = i + 1 ∧ WordsOk fr sh ws' ∧ Gr b H (upd (upd H6 q3 (.lst [V.str word, V.str (sgn (97 + t))])) p (.lst (ws.map V.str ++ [V.str z]))) ∧ Box (upd (upd H6 q3 (.lst [V.str word, V.str (sgn (97 + t))])) p (.lst (ws.map V.str ++ [V.str z]))) b r ∧ (upd (upd H6 q3 (.lst [V.str word, V.str (sgn (97 + t))])) p (.lst (ws.map V.str ++ [V.str z]))) p = some (.lst (ws'.map V.str)) := by
     intro z hz
     refine ⟨_, _, _, _, _, ws ++ [z], rfl, ?_, ?_, ?_, ?_, ?_⟩
     ·rw [List.length_append, hl]; rfl
     ·exact hw.snoc (by rw [hl, ht]; exact hz)
     ·exact (g6.trans (Gr.new nq3)).upd np0
     ·exact (B6.new nq3).upd npb npr
     ·rw [upd_same, List.map_append]; rfl
    have lw : (ws.map V.str).length < sizeLine := by
     rw [List.length_map]
     exact Nat.lt_of_le_of_lt (show ws.length ≤ 1000 by omega) (by decide)
    refine ⟨.str word, rfl, rfl, _, rfl, ite2 (fun e => ?_) (fun e => ?_)⟩
    ·refine .inr ⟨true, rfl, q3, _, _, .str (sgn (97 + t)), rfl, rfl, SqL.of upd_same, rfl, p, _, _, rfl, rfl, e7, lw, fin _ (sgn_good ht26)⟩
    ·have nt : word ≠ "text" := fun z => e (decide_eq_true (congrArg V.str z))
     refine ⟨.str word, rfl, rfl, .inr ⟨_, rfl, ?_⟩⟩
     by_cases e2 : word = ("number" : Str)
     ·rw [decide_eq_true (congrArg V.str e2)]
      exact ⟨q3, _, _, .str (sgn (97 + t)), rfl, rfl, SqL.of upd_same, rfl, p, _, _, rfl, rfl, e7, lw, fin _ (sgn_good ht26)⟩
     ·rw [decide_eq_false (fun z => e2 (V.str.inj z))]
      refine ⟨q3, _, _, .str word, rfl, rfl, SqL.of upd_same, rfl, p, _, _, rfl, rfl, e7, lw, fin _ ?_⟩
      rw [← hword] at nt e2 ⊢
      exact word_good ht26 htl (by omega) hcs nt e2
  ·rintro σ H3 ⟨y6, y7, y8, y9, y10, ws, rfl, hl, hw, g3, B3, e3⟩
   refine ⟨.ref p, rfl, q ws p H3 hl (fun z hz => ?_) (hw.nodup (by omega)) g3 B3 np0 e3⟩
   obtain ⟨k, hk, rfl⟩ := List.getElem_of_mem hz
   exact ⟨(hw k hk).nm, (hw k hk).nt, (hw k hk).nn⟩
end
end NW
namespace NW
open PySem PySem.Spec PyProof.Rows L2
open TL (tl)
open StX (pa_star)
abbrev s_Lschema : Stmt := topS 63
abbrev N_Lschema : List Str := ["_law_box_here", "_law_most", "_law_kinds", "_law_many", "_law_words_here", "_law_names", "_law_faces", "_law_unions", "_law_bases", "_law_common", "_law_face_table", "_law_face", "_law_k", "_law_at", "_law_row", "_law_kind_table", "_law_having", "_law_given", "_law_union_table", "_law_union", "_law_own", "_law_j", "_law_word"]
theorem sc_Lschema : FnScope N_Lschema ["_law_box_here", "_law_most", "_law_kinds"] (defScope s_Lschema) := ⟨rfl, rfl, rfl, by decide +kernel, rfl, by decide +kernel, by decide +kernel⟩
theorem cut_nat {xs : List V} {i j : Nat} (hi : i ≤ xs.length) (hj : j ≤ xs.length) : cutV xs (some (i : Int)) (some (j : Int)) = (xs.drop i).take (j - i) := by
 unfold cutV
 rw [HT.sIx_nat, HT.sIx_nat, Nat.min_eq_left hi, Nat.min_eq_left hj]
theorem cut_to {xs : List V} {j : Nat} (hj : j ≤ xs.length) : cutV xs none (some (j : Int)) = xs.take j := by
 unfold cutV
 rw [HT.sIx_nat, HT.sIx_none, Nat.min_eq_left hj, List.drop_zero, Nat.sub_zero]
theorem cut_to' {xs : List V} {j : Nat} : cutV xs none (some (j : Int)) = xs.take j := by
 unfold cutV
 rw [HT.sIx_nat, HT.sIx_none, List.drop_zero, Nat.sub_zero, List.take_eq_take_iff]
 omega
def Gl (b : Addr) (H H' : Hp) : Prop := ∀ a o, a ≠ b → (∀ kvs, o ≠ .dK kvs) → H a = some o → H' a = some o
theorem Gr.gl {b : Addr} {H H' : Hp} (g : Gr b H H') : Gl b H H' := fun a o n _ e => g a o n e
theorem Gl.trans {b : Addr} {H H1 H2 : Hp} (x : Gl b H H1) (y : Gl b H1 H2) : Gl b H H2 := fun a o n k e => y a o n k (x a o n k e)
theorem Gl.upd {b D : Addr} {H : Hp} {kvs : List (Key × V)} {o : HO} (e : H D = some (.dK kvs)) : Gl b H (upd H D o) := fun a u _ k h => by
 rw [upd_ne (ne_of h e (k _))]
 exact h
theorem Gl.sh {b : Addr} {H H' : Hp} {xs : List V} (hb : H b = some (.lst xs)) (x : Gl b H H') : ∀ {s : Shp} {v : V}, ShAt H v s → ShAt H' v s := by
 intro s
 induction s with
 | base z => intro v h; exact h
 | sure s ih =>
  rintro v ⟨a, u, e, ha, hu⟩
  exact ⟨a, u, e, x _ _ (ne_of ha hb (by intro z; cases z)) (by intro _ z; cases z) ha, ih hu⟩
 | list s ih =>
  rintro v ⟨a, u, e, ha, hu⟩
  exact ⟨a, u, e, x _ _ (ne_of ha hb (by intro z; cases z)) (by intro _ z; cases z) ha, ih hu⟩
structure Pre (H : Hp) (b r wl nl fl ul bs cl : Addr) (ws nm fcs uns l : List Str) (cm : List (V × Shp)) : Prop where
 B : Box H b r
 hw : H wl = some (.lst (ws.map V.str))
 hn : H nl = some (.lst (nm.map V.str))
 hf : H fl = some (.lst (fcs.map V.str))
 hu : H ul = some (.lst (uns.map V.str))
 hb : H bs = some (.lst (l.map V.str))
 hc : H cl = some (.lst (cm.map (·.1)))
 n1 : wl ≠ b
 n2 : nl ≠ b
 n3 : fl ≠ b
 n4 : ul ≠ b
 n5 : bs ≠ b
 n6 : cl ≠ b
 csh : ∀ c ∈ cm, ShAt H c.1 c.2 ∧ okS l 4 false c.2
theorem Pre.gl {H H' : Hp} {b r wl nl fl ul bs cl : Addr} {ws nm fcs uns l : List Str} {cm : List (V × Shp)} (p : Pre H b r wl nl fl ul bs cl ws nm fcs uns l cm) (g : Gl b H H') (B' : Box H' b r) : Pre H' b r wl nl fl ul bs cl ws nm fcs uns l cm := by
 obtain ⟨xs, e⟩ := p.B.lst
 exact ⟨B', g _ _ p.n1 (by intro _ z; cases z) p.hw, g _ _ p.n2 (by intro _ z; cases z) p.hn, g _ _ p.n3 (by intro _ z; cases z) p.hf, g _ _ p.n4 (by intro _ z; cases z) p.hu, g _ _ p.n5 (by intro _ z; cases z) p.hb, g _ _ p.n6 (by intro _ z; cases z) p.hc, p.n1, p.n2, p.n3, p.n4, p.n5, p.n6, fun c m => ⟨g.sh e (p.csh c m).1, (p.csh c m).2⟩⟩
theorem rows_of {frs : List FRow} : ∀ {hv : List Str}, (∀ z ∈ hv, z ∈ frs.map (·.nm)) → ∃ rows : List FRow, rows.map (·.nm) = hv ∧ ∀ k ∈ rows, k ∈ frs
 | [], _ => ⟨[], rfl, fun k m => by cases m⟩
 | z :: hv, h => by
  obtain ⟨rows, e, hr⟩ := rows_of (hv := hv) fun z m => h z (List.mem_cons_of_mem _ m)
  obtain ⟨k, hk, ek⟩ := List.mem_map.mp (h z List.mem_cons_self)
  exact ⟨k :: rows, by rw [List.map_cons, e, ek], fun x m => by
   rcases List.mem_cons.mp m with rfl | m
   ·exact hk
   ·exact hr x m⟩
theorem eqv_nil (ow : List Str) : PyData.eqv (.list (ow.map PyData.str)) (.list []) = (ow.length == 0) := by
 cases ow with
 | nil => simp [PyData.eqv, PyData.eqvAll]
 | cons x r => simp [PyData.eqv, PyData.eqvAll]
theorem dp_strs {K : PySem.W.Frag} {H : Hp} : ∀ (l : List Str), DpAll K H (l.map V.str) (l.map PyData.str)
 | [] => .nil
 | x :: r => .cons (.str x) (dp_strs r)
theorem lay_strs : ∀ {l : List Str}, (∀ z ∈ l, IsName z) → PyData.canLayAll0 (l.map PyData.str) = true ∧ PyData.depthAll (l.map PyData.str) ≤ 1
 | [], _ => by simp [PyData.canLayAll0, PyData.depthAll]
 | x :: r, h => by
  have ih := lay_strs (l := r) fun z m => h z (List.mem_cons_of_mem _ m)
  have hx := (h x List.mem_cons_self).tx
  simp only [List.map_cons, PyData.canLayAll0, PyData.depthAll, PyData.canLay0, PyData.depth, hx, ih.1, Bool.and_self, true_and]
  omega
theorem shaped_strs {l : List Str} (h : ∀ z ∈ l, IsName z) : SeqAt.shaped (.list (l.map PyData.str)) = true := by
 have := lay_strs h
 have h1 : (PyData.list (l.map PyData.str)).canLay0 = true := by simp [PyData.canLay0, this.1]
 have h2 : (PyData.list (l.map PyData.str)).depth ≤ 64 := by
  simp only [PyData.depth]
  omega
 exact Bool.and_eq_true_iff.mpr ⟨h1, decide_eq_true h2⟩
theorem parts_sub (ws : List Str) (many nf nu : Nat) (h : nf ≤ 3) : List.Sublist (ws.take many ++ ((ws.drop many).take nf ++ (ws.drop (many + 3)).take nu)) ws := by
 have e1 : ws = ws.take many ++ ((ws.drop many).take 3 ++ ws.drop (many + 3)) := by
  rw [← List.drop_drop, List.take_append_drop, List.take_append_drop]
 conv => rhs; rw [e1]
 refine List.Sublist.append (List.Sublist.refl _) (List.Sublist.append ?_ (List.take_sublist _ _))
 exact (List.take_prefix_take_left h).sublist
theorem sub_take {α : Type} {l : List α} {i j : Nat} : ∀ x ∈ (l.drop i).take j, x ∈ l := fun x h => List.mem_of_mem_drop (List.mem_of_mem_take h)
section
variable {P : Program} {w : World} {K : PySem.W.Frag} {mg : Str → Option Value} {base : Heap}

def Nm5 (ks : List KRow) : Prop := ∃ nm : List Str, nm.length ≤ 5 ∧ ∀ k ∈ ks, ∀ f ∈ k.fds, f.1 ∈ nm
def spLschema : Sp := fun vs H Q _ => ∃ (b r : Addr) (most kinds : Nat), vs = [.ref b, .int most, .int kinds] ∧ Box H b r ∧ most ≤ 4 ∧ 1 ≤ kinds ∧ kinds ≤ 6 ∧
 ∀ (q kt ft ut : Addr) (ks : List KRow) (fs : List FRow) (us : List URow) (root : Str) H', H' q = some (.tup [.ref kt, .ref ft, .ref ut, .str root]) → SchAt H' kt ft ut ks fs us → SchOk ks fs us root → Nm5 ks → ks.length ≤ kinds → Gr b H H' → Box H' b r → Q (.ref q) H'
theorem ok_Lschema {f f1 f2 f3 f4 : Addr} {fd fd1 fd2 fd3 fd4 : FuncData} (D : Df K mg "_law_schema" s_Lschema f fd ["_law_box_here", "_law_most", "_law_kinds"]) (D_Ldraw : Df K mg "_law_draw" s_Ldraw f1 fd1 ["_law_box_here", "_law_many"])
  (D_Lshape : Df K mg "_law_shape" s_Lshape f2 fd2 ["_law_box_here", "_law_bases", "_law_most"]) (D_Lwords : Df K mg "_law_words" s_Lwords f3 fd3 ["_law_box_here", "_law_many"])
  (D_Lkind : Df K mg "_law_kind" s_Lkind f4 fd4 ["_law_box_here", "_law_faces", "_law_names", "_law_common", "_law_bases", "_law_most"]) (T : Nms mg)
  (G_Ldraw : FnOk P w K mg base CX0 1 f1 fd1 ["_law_box_here", "_law_many"] spLdraw) (G_Lshape : FnOk P w K mg base CX0 2 f2 fd2 ["_law_box_here", "_law_bases", "_law_most"] spLshape) (G_Lwords : FnOk P w K mg base CX0 2 f3 fd3 ["_law_box_here", "_law_many"] spLwords)
  (G_Lkind : FnOk P w K mg base CX0 3 f4 fd4 ["_law_box_here", "_law_faces", "_law_names", "_law_common", "_law_bases", "_law_most"] spLkind) : FnOk P w K mg base CX0 4 f fd ["_law_box_here", "_law_most", "_law_kinds"] spLschema := by
 refine D.F.ok sc_Lschema (fun vs H Q E h => ?_) (fun cdv A outer s H vs Q E hr h => ?_)
 ·obtain ⟨b, r, most, kinds, rfl, _⟩ := h
  rfl
 ·obtain ⟨b, r, most, kinds, rfl, B, hmost, hk1, hk6, q⟩ := h
  have hu := hu_of hr
  refine ⟨_, (pss_cons (ps_set (i := 3) sc_Lschema.nd rfl (.inr rfl) (pe_op op_add pe_int (pe_call G_Ldraw (hr.mono (by decide)) (by rfl) D_Ldraw.g D_Ldraw.F.kp D_Ldraw.b .nil pass0 (pa_cons (pv 0) (pa_cons (pv 2) pa_nil)))))
   (pss_cons (ps_set (i := 4) sc_Lschema.nd rfl (.inr rfl) (pe_call G_Lwords (hr.mono (by decide)) (by rfl) D_Lwords.g D_Lwords.F.kp D_Lwords.b .nil pass0 (pa_cons (pv 0) (pa_cons (pe_op op_add (pv 3) pe_int) pa_nil))))
   (pss_cons (ps_set (i := 5) sc_Lschema.nd rfl (.inl rfl) (pe_call G_Lwords (hr.mono (by decide)) (by rfl) D_Lwords.g D_Lwords.F.kp D_Lwords.b .nil pass0 (pa_cons (pv 0) (pa_cons pe_int pa_nil))))
   (pss_cons (ps_set (i := 6) sc_Lschema.nd rfl (.inl rfl) (pe_slice sl_list (pv 4) (po_some (pv 3)) (po_some (pe_op op_add (pv 3) (pe_call G_Ldraw (hr.mono (by decide)) (by rfl) D_Ldraw.g D_Ldraw.F.kp D_Ldraw.b .nil pass0 (pa_cons (pv 0) (pa_cons pe_int pa_nil)))))))
   (pss_cons (ps_set (i := 7) sc_Lschema.nd rfl (.inl rfl) (pe_slice sl_list (pv 4) (po_some (pe_op op_add (pv 3) pe_int)) (po_some (pe_op op_add (pe_op op_add (pv 3) pe_int) (pe_call G_Ldraw (hr.mono (by decide)) (by rfl) D_Ldraw.g D_Ldraw.F.kp D_Ldraw.b .nil pass0 (pa_cons (pv 0) (pa_cons pe_int pa_nil)))))))
   (pss_cons (ps_set (i := 8) sc_Lschema.nd rfl (.inr rfl) (pe_op op_cat (pe_op op_cat (pe_op op_cat (pe_lst (pa_cons pe_str (pa_cons pe_str pa_nil))) (pe_slice sl_list (pv 4) po_none (po_some (pv 3)))) (pv 6)) (pv 7)))
   (pss_cons (ps_setLc (i := 9) (own := [("_law_k", 12)]) (g := (gName 12)) (tt := tYes) rfl sc_Lschema.nd rfl rfl (sw_true rfl rfl rfl (by decide +kernel)) (pi_range1 (by rfl) T.n_range (pa_cons pe_int pa_nil)) (blkOk_by (own := [("_law_k", 12)]) (N := N_Lschema) (sc := defScope s_Lschema) (by decide +kernel)) (fun _ _ _ _ _ => (pg_name (i := 12) sc_Lschema.nd rfl (.inl rfl))) (fun _ _ _ _ _ => pts_nil) (fun _ _ _ _ _ => (pe_call G_Lshape (hr.mono (by decide)) (by rfl) D_Lshape.g D_Lshape.F.kp D_Lshape.b .nil pass0 (pa_cons (pv 0) (pa_cons (pv 8) (pa_cons (pv 1) pa_nil))))))
   (pss_cons (ps_set (i := 10) sc_Lschema.nd rfl (.inr rfl) pe_dnewK)
   (pss_cons (ps_for PassesOwn.never rfl (pi_list (pv 6)) (pg_name (i := 11) sc_Lschema.nd rfl (.inl rfl))
    (pss_cons (ps_dput hu (pv 10) (pv 11) pe_dnewK rfl)
    (pss_one (ps_for PassesOwn.never rfl (pi_range1 (by rfl) T.n_range (pa_cons (pe_op op_add pe_int (pe_call G_Ldraw (hr.mono (by decide)) (by rfl) D_Ldraw.g D_Ldraw.F.kp D_Ldraw.b .nil pass0 (pa_cons (pv 0) (pa_cons pe_int pa_nil)))) pa_nil)) (pg_name (i := 12) sc_Lschema.nd rfl (.inr rfl))
     (pss_cons (ps_set (i := 13) sc_Lschema.nd rfl (.inl rfl) (pe_call G_Ldraw (hr.mono (by decide)) (by rfl) D_Ldraw.g D_Ldraw.F.kp D_Ldraw.b .nil pass0 (pa_cons (pv 0) (pa_cons pe_int pa_nil))))
     (pss_cons (ps_set (i := 14) sc_Lschema.nd rfl (.inl rfl) (pe_dget hu (pv 10) (pv 11) (fun _ _ => rfl)))
     (pss_one (ps_dput hu (pv 14) (pe_ix ix_list (pv 5) (pv 13) (fun _ _ => rfl)) (pe_ix ix_list (pv 9) (pv 13) (fun _ _ => rfl)) rfl))))))))
   (pss_cons (ps_set (i := 15) sc_Lschema.nd rfl (.inl rfl) pe_dnewK)
   (pss_cons (ps_for PassesOwn.never rfl (pi_range1 (by rfl) T.n_range (pa_cons (pv 3) pa_nil)) (pg_name (i := 12) sc_Lschema.nd rfl (.inr rfl))
    (pss_cons (ps_setLc (i := 16) (own := [("_law_j", 21), ("_law_face", 11)]) (g := gTup K 2 (gCons (gName 21) (gCons (gName 11) gNil))) rfl sc_Lschema.nd rfl rfl (sw_true rfl rfl rfl (by decide +kernel)) (pi_enum (by rfl) T.n_enumerate (pa_cons (pv 6) pa_nil)) (blkOk_by (own := [("_law_j", 21), ("_law_face", 11)]) (N := N_Lschema) (sc := defScope s_Lschema) (by decide +kernel)) (fun _ _ _ _ _ => (pg_tup (by rfl) (pgs_cons (pg_name (i := 21) sc_Lschema.nd rfl (.inl rfl)) (pgs_cons (pg_name (i := 11) sc_Lschema.nd rfl (.inl rfl)) pgs_nil)))) (fun _ _ _ _ _ => pts_one (PW.pt (pw_or (pt_cmpR op_eq (pe_op op_modN (pe_callTy call_int1 (by rfl) T.n_int (by decide +kernel) (pa_cons (pv 21) pa_nil)) (pv 3)) (pv 12) (nomark _)) (pw_or1 (pt_cmpR op_eq (pe_call G_Ldraw (hr.mono (by decide)) (by rfl) D_Ldraw.g D_Ldraw.F.kp D_Ldraw.b .nil pass0 (pa_cons (pv 0) (pa_cons pe_int pa_nil))) pe_int (nomark _)))))) (fun _ _ _ _ _ => (pv 11)))
    (pss_cons (ps_setLc (i := 17) (own := [("_law_face", 11)]) (g := (gName 11)) (tt := tYes) rfl sc_Lschema.nd rfl rfl (sw_true rfl rfl rfl (by decide +kernel)) (pi_list (pv 16)) (blkOk_by (own := [("_law_face", 11)]) (N := N_Lschema) (sc := defScope s_Lschema) (by decide +kernel)) (fun _ _ _ _ _ => (pg_name (i := 11) sc_Lschema.nd rfl (.inl rfl))) (fun _ _ _ _ _ => pts_nil) (fun _ _ _ _ _ => (pe_dget hu (pv 10) (pv 11) (fun _ _ => rfl))))
    (pss_one (ps_dput hu (pv 15) (pe_ix ix_list (pv 4) (pv 12) (fun _ _ => rfl)) (pe_tup (pa_cons (pe_callTy call_tuple_of (by rfl) T.n_tuple (by decide +kernel) (pa_cons (pv 16) pa_nil)) (pa_cons (pe_call G_Lkind (hr.mono (by decide)) (by rfl) D_Lkind.g D_Lkind.F.kp D_Lkind.b .nil pass0 (pa_cons (pv 0) (pa_cons (pv 17) (pa_cons (pv 5) (pa_cons (pv 9) (pa_cons (pv 8) (pa_cons (pv 1) pa_nil))))))) pa_nil))) rfl)))))
   (pss_cons (ps_set (i := 18) sc_Lschema.nd rfl (.inl rfl) pe_dnewK)
   (pss_cons (ps_for PassesOwn.never rfl (pi_list (pv 7)) (pg_name (i := 19) sc_Lschema.nd rfl (.inl rfl))
    (pss_cons (ps_setLc (i := 20) (own := [("_law_word", 22)]) (g := (gName 22)) rfl sc_Lschema.nd rfl rfl (sw_true rfl rfl rfl (by decide +kernel)) (pi_list (pe_slice sl_list (pv 4) po_none (po_some (pv 3)))) (blkOk_by (own := [("_law_word", 22)]) (N := N_Lschema) (sc := defScope s_Lschema) (by decide +kernel)) (fun _ _ _ _ _ => (pg_name (i := 22) sc_Lschema.nd rfl (.inl rfl))) (fun _ _ _ _ _ => pts_one (pt_cmpR op_eq (pe_call G_Ldraw (hr.mono (by decide)) (by rfl) D_Ldraw.g D_Ldraw.F.kp D_Ldraw.b .nil pass0 (pa_cons (pv 0) (pa_cons pe_int pa_nil))) pe_int (nomark _))) (fun _ _ _ _ _ => (pv 22)))
    (pss_cons (ps_set (i := 20) sc_Lschema.nd rfl (.inl rfl) (pe_op op_cat (pe_slice sl_list (pv 20) po_none (po_some pe_int)) (pe_lc (own := [("_law_k", 12)]) (g := (gName 12)) (tt := tYes) rfl sc_Lschema.nd (pi_range1 (by rfl) T.n_range (pa_cons (pe_callTy call_int1 (by rfl) T.n_int (by decide +kernel) (pa_cons (pe_cmpR (op_eqD hr.units) (pv 20) (pe_lst pa_nil) (nomark _)) pa_nil)) pa_nil)) (blkOk_by (own := [("_law_k", 12)]) (N := N_Lschema) (sc := defScope s_Lschema) (by decide +kernel)) (fun _ _ _ _ _ => (pg_name (i := 12) sc_Lschema.nd rfl (.inl rfl))) (fun _ _ _ _ _ => pts_nil) (fun _ _ _ _ _ => (pe_ix (ix_listK K) (pv 4) (pe_call G_Ldraw (hr.mono (by decide)) (by rfl) D_Ldraw.g D_Ldraw.F.kp D_Ldraw.b .nil pass0 (pa_cons (pv 0) (pa_cons (pv 3) pa_nil))) (fun _ _ => rfl))))))
    (pss_one (ps_dput hu (pv 18) (pv 19) (pe_callTy call_tuple_of (by rfl) T.n_tuple (by decide +kernel) (pa_cons (pe_revL (pv 20)) pa_nil)) rfl)))))
   (pss_one (ps_ret (pe_tup (pa_cons (pv 15) (pa_cons (pv 10) (pa_cons (pv 18) (pa_cons (pe_ix (ix_listK K) (pv 4) (pe_call G_Ldraw (hr.mono (by decide)) (by rfl) D_Ldraw.g D_Ldraw.F.kp D_Ldraw.b .nil pass0 (pa_cons (pv 0) (pa_cons (pv 3) pa_nil))) (fun _ _ => rfl)) pa_nil)))))))))))))))))))), ?_⟩
  refine ⟨.ref b, rfl, .int kinds, rfl, b, r, kinds, rfl, B, by omega, by omega, fun d H1 d0 d1 g1 B1 => ⟨_, _, rfl, rfl, ?_⟩⟩
  obtain ⟨d, rfl⟩ := Int.eq_ofNat_of_zero_le d0
  have em : (fun (i j : Int) => V.int (i + j)) 1 (d : Int) = V.int ((d + 1 : Nat) : Int) := by
   show V.int (1 + (d : Int)) = _
   rw [show (1 + (d : Int)) = ((d + 1 : Nat) : Int) by omega]
  rw [em]
  obtain ⟨many, hmany⟩ : ∃ many, many = d + 1 := ⟨_, rfl⟩
  rw [← hmany]
  have m0 : 1 ≤ many := by omega
  have m6 : many ≤ 6 := by omega
  have mK : many ≤ kinds := by omega
  clear em d0 d1 hmany
  refine ⟨.ref b, rfl, .int many, rfl, _, _, rfl, rfl, b, r, many + 6, ?_, B1, by omega, fun ws wl H2 hwl hwok hwnd g2 B2 nw ew => ?_⟩
  ·show [V.ref b, V.int ((many : Int) + 6)] = [V.ref b, V.int ((many + 6 : Nat) : Int)]
   rw [show ((many : Int) + 6) = ((many + 6 : Nat) : Int) by omega]
  refine ⟨.ref b, rfl, b, r, 5, rfl, B2, by omega, fun nm nl H3 hnl hnok hnnd g3 B3 nn en => ?_⟩
  have nwb := B1.neb nw
  have nnb := B2.neb nn
  have ew3 := g3 _ _ nwb ew
  have lw : (ws.map V.str).length = many + 6 := by rw [List.length_map, hwl]
  refine ⟨.ref wl, rfl, .int many, rfl, many, rfl, .int many, rfl, .ref b, rfl, b, r, 4, rfl, B3, by decide, by decide, fun nf H4 f0 f1 g4 B4 => ?_⟩
  obtain ⟨nf, rfl⟩ := Int.eq_ofNat_of_zero_le f0
  have hnf : nf ≤ 3 := by omega
  have ew4 := g4 _ _ nwb ew3
  refine ⟨_, _, rfl, rfl, _, rfl, wl, ws.map V.str, rfl, SqL.of ew4, fun fl nfl => ?_⟩
  rw [show ((many : Int) + (nf : Int)) = ((many + nf : Nat) : Int) by omega, cut_nat (by omega) (by omega), show many + nf - many = nf by omega, ← List.map_drop, ← List.map_take]
  generalize hfcs : (ws.drop many).take nf = fcs
  have n3b := B4.neb nfl
  refine ⟨.ref wl, rfl, .int many, rfl, _, _, rfl, rfl, _, rfl, .int many, rfl, _, _, rfl, rfl, .ref b, rfl, b, r, 4, rfl, B4.new nfl, by decide, by decide, fun nu H5 u0 u1 g5 B5 => ?_⟩
  obtain ⟨nu, rfl⟩ := Int.eq_ofNat_of_zero_le u0
  have hnu : nu ≤ 3 := by omega
  have g45 : Gr b H4 H5 := (Gr.new nfl).trans g5
  have ew5 := g45 _ _ nwb ew4
  have ef5 := g5 _ _ n3b upd_same
  refine ⟨_, _, rfl, rfl, _, rfl, wl, ws.map V.str, rfl, SqL.of ew5, fun ul nul => ?_⟩
  show tSeq _ _ _ (List.set _ 7 _) (upd H5 ul (.lst (cutV (ws.map V.str) (some ((many : Int) + 3)) (some ((many : Int) + 3 + (nu : Int))))))
  rw [show ((many : Int) + 3) = ((many + 3 : Nat) : Int) by omega, show (((many + 3 : Nat) : Int) + (nu : Int)) = ((many + 3 + nu : Nat) : Int) by omega, cut_nat (by omega) (by omega), show many + 3 + nu - (many + 3) = nu by omega, ← List.map_drop, ← List.map_take]
  generalize huns : (ws.drop (many + 3)).take nu = uns
  have n4b := B5.neb nul
  have g6 : Gr b H5 (upd H5 ul (.lst (uns.map V.str))) := Gr.new nul
  have B6 : Box (upd H5 ul (.lst (uns.map V.str))) b r := B5.new nul
  have eu6 : (upd H5 ul (.lst (uns.map V.str))) ul = some (.lst (uns.map V.str)) := upd_same
  generalize upd H5 ul (.lst (uns.map V.str)) = H6 at g6 B6 eu6
  have ew6 := g6 _ _ nwb ew5
  have ef6 := g6 _ _ n3b ef5
  refine ⟨by show 2 ≤ sizeLine; decide, fun a1 na1 => ?_⟩
  have s7 : Same H6 (upd H6 a1 (.lst [V.str "number", V.str "text"])) := same_new na1
  have e71 : (upd H6 a1 (.lst [V.str "number", V.str "text"])) a1 = some (.lst [V.str "number", V.str "text"]) := upd_same
  generalize upd H6 a1 (.lst [V.str "number", V.str "text"]) = H7 at s7 e71
  refine ⟨.ref wl, rfl, .int many, rfl, many, rfl, wl, ws.map V.str, rfl, SqL.of (s7 _ _ ew6), fun a2 na2 => ?_⟩
  rw [cut_to (by omega), ← List.map_take]
  have s8 : Same H7 (upd H7 a2 (.lst ((ws.take many).map V.str))) := same_new na2
  have e82 : (upd H7 a2 (.lst ((ws.take many).map V.str))) a2 = some (.lst ((ws.take many).map V.str)) := upd_same
  generalize upd H7 a2 (.lst ((ws.take many).map V.str)) = H8 at s8 e82
  have lt : (ws.take many).length = many := by rw [List.length_take, hwl]; omega
  have lf : fcs.length = nf := by rw [← hfcs, List.length_take, List.length_drop, hwl]; omega
  have lu : uns.length = nu := by rw [← huns, List.length_take, List.length_drop, hwl]; omega
  have hS : ∀ n : Nat, n ≤ 1000 → n ≤ sizeLine := fun n h => Nat.le_trans h (by decide)
  refine ⟨a1, a2, _, _, rfl, rfl, s8 _ _ e71, e82, hS _ (by rw [List.length_map, lt]; show 2 + many ≤ 1000; omega), fun a3 na3 => ?_⟩
  have s9 : Same H8 (upd H8 a3 (.lst ([V.str "number", V.str "text"] ++ (ws.take many).map V.str))) := same_new na3
  have e93 : (upd H8 a3 (.lst ([V.str "number", V.str "text"] ++ (ws.take many).map V.str))) a3 = some (.lst ([V.str "number", V.str "text"] ++ (ws.take many).map V.str)) := upd_same
  generalize upd H8 a3 (.lst ([V.str "number", V.str "text"] ++ (ws.take many).map V.str)) = H9 at s9 e93
  have s69 : Same H6 H9 := (s7.trans s8).trans s9
  refine ⟨.ref fl, rfl, a3, fl, _, _, rfl, rfl, e93, s69 _ _ ef6, hS _ (by rw [List.length_append, List.length_map, List.length_map, lt, lf]; show 2 + many + nf ≤ 1000; omega), fun a4 na4 => ?_⟩
  refine ⟨.ref ul, rfl, a4, ul, _, _, rfl, rfl, upd_same, same_new na4 _ _ (s69 _ _ eu6), hS _ (by rw [List.length_append, List.length_append, List.length_map, List.length_map, List.length_map, lt, lf, lu]; show 2 + many + nf + nu ≤ 1000; omega), fun bs nbs => ?_⟩
  have el : ([V.str "number", V.str "text"] ++ (ws.take many).map V.str ++ fcs.map V.str ++ uns.map V.str) = (LV ++ (ws.take many ++ (fcs ++ uns))).map V.str := by
   simp only [List.map_append, List.append_assoc]
   rfl
  rw [el]
  generalize hl : LV ++ (ws.take many ++ (fcs ++ uns)) = l
  have g10 : Gr b H9 (upd (upd H9 a4 (.lst ([V.str "number", V.str "text"] ++ (ws.take many).map V.str ++ fcs.map V.str))) bs (.lst (l.map V.str))) := (Gr.new na4).trans (Gr.new nbs)
  have B9 : Box H9 b r := by
   obtain ⟨xs, e⟩ := B6.lst
   exact B6.gr (fun a o _ e => s69 a o e) ((s69 _ _ e).trans e.symm)
  have n5b := (B9.new na4).neb nbs
  have B10 : Box (upd (upd H9 a4 (.lst ([V.str "number", V.str "text"] ++ (ws.take many).map V.str ++ fcs.map V.str))) bs (.lst (l.map V.str))) b r := (B9.new na4).new nbs
  have eb10 : (upd (upd H9 a4 (.lst ([V.str "number", V.str "text"] ++ (ws.take many).map V.str ++ fcs.map V.str))) bs (.lst (l.map V.str))) bs = some (.lst (l.map V.str)) := upd_same
  generalize upd (upd H9 a4 (.lst ([V.str "number", V.str "text"] ++ (ws.take many).map V.str ++ fcs.map V.str))) bs (.lst (l.map V.str)) = H10 at g10 B10 eb10
  have g610 : Gr b H6 H10 := (gr_x s69).trans g10
  have ew10 := g610 _ _ nwb ew6
  have ef10 := g610 _ _ n3b ef6
  have eu10 := g610 _ _ n4b eu6
  have en10 := g610 _ _ nnb (g6 _ _ nnb (g45 _ _ nnb (g4 _ _ nnb en)))
  have gA : Gr b H H10 := (((g1.trans g2).trans (g3.trans g4)).trans (g45.trans g6)).trans g610
  have ll : l.length = 2 + (many + (nf + nu)) := by rw [← hl, List.length_append, List.length_append, List.length_append, lt, lf, lu]; rfl
  clear s7 e71 s8 e82 s9 e93 na1 na2 na3 na4 nbs s69 el g10 B9 g610 ew6 ef6 eu6 ew5 ef5 ew4 ew3 nul nfl g45 g6 B6
  refine ⟨5, rfl, by decide, by decide, fun cl ncl => lc_range (lo := 0) (n := 5) (fun i H' => ∃ cm : List (V × Shp), cm.length = i ∧ (∀ c ∈ cm, ShAt H' c.1 c.2 ∧ okS l 4 false c.2) ∧ Gr b H10 H' ∧ Box H' b r ∧ H' cl = some (.lst (cm.map (·.1)))) ?_ ?_ ?_⟩
  ·exact ⟨[], rfl, (fun c m => by cases m), Gr.new ncl, B10.new ncl, upd_same⟩
  ·rintro i H11 hi ⟨cm, hcl, hcm, g11, B11, ec⟩
   have n6b := B10.neb ncl
   refine ⟨rfl, lcT ⟨.ref b, rfl, .ref bs, rfl, .int most, rfl, b, r, bs, l, most, rfl, B11, g11 _ _ n5b eb10, n5b, by omega, by omega, hmost, fun v s H12 hv hs g12 B12 => ⟨_, g12 _ _ n6b ec, ?_, cm ++ [(v, s)], ?_, ?_, (g11.trans g12).upd ncl, B12.upd n6b (B10.ner ncl), ?_⟩⟩⟩
   ·rw [List.length_map]
    exact Nat.lt_of_le_of_lt (show cm.length ≤ 1000 by omega) (by decide)
   ·rw [List.length_append, hcl]; rfl
   ·intro c hc
    obtain ⟨xs, exs⟩ := B11.lst
    have ecl := g12 _ _ n6b ec
    rcases List.mem_append.mp hc with hc | hc
    ·exact ⟨((hcm c hc).1.grO (Oth.lst exs) g12).grO (Oth.lst ecl) Gr.box, (hcm c hc).2⟩
    ·obtain rfl := List.mem_singleton.mp hc
     exact ⟨hv.grO (Oth.lst ecl) Gr.box, hs⟩
   ·rw [upd_same, List.map_append]
    rfl
  ·rintro H11 ⟨cm, hcl, hcm, g11, B11, ec⟩
   have n6b := B10.neb ncl
   have P11 : Pre H11 b r wl nl fl ul bs cl ws nm fcs uns l cm := ⟨B11, g11 _ _ nwb ew10, g11 _ _ nnb en10, g11 _ _ n3b ef10, g11 _ _ n4b eu10, g11 _ _ n5b eb10, ec, nwb, nnb, n3b, n4b, n5b, n6b, hcm⟩
   have gB := gA.trans g11
   clear hcm g11 ec ew10 en10 ef10 eu10 eb10 gA B10 ncl
   have fnd : fcs.Nodup := by rw [← hfcs]; exact (hwnd.sublist (List.drop_sublist _ _)).sublist (List.take_sublist _ _)
   have und : uns.Nodup := by rw [← huns]; exact (hwnd.sublist (List.drop_sublist _ _)).sublist (List.take_sublist _ _)
   have fsub : ∀ z ∈ fcs, z ∈ ws := fun z m => by rw [← hfcs] at m; exact sub_take z m
   have usub : ∀ z ∈ uns, z ∈ ws := fun z m => by rw [← huns] at m; exact sub_take z m
   refine fun ft nft => ?_
   have nftb := B11.neb nft
   have nftr := B11.ner nft
   have nft0 : H ft = none := gB.free nftb nft
   have P12 := P11.gl (Gr.new (o := .dK []) nft).gl (B11.new nft)
   have gC := gB.trans (Gr.new (o := .dK []) nft)
   have eft : (upd H11 ft (.dK [])) ft = some (.dK (fkvs [])) := upd_same
   generalize upd H11 ft (.dK []) = H12 at P12 gC eft
   have n6b' : cl ≠ b := n6b
   clear P11 gB B11 n6b
   refine ⟨.ref fl, rfl, fl, rfl, ⟨_, SqL.of P12.hf⟩, ?_⟩
   refine for_list (xs := fcs.map V.str) (fun i σ H' => ∃ (y11 y12 y13 y14 : Option V) (frs : List FRow), σ = [some (.ref b), some (.int most), some (.int kinds), some (.int many), some (.ref wl), some (.ref nl), some (.ref fl), some (.ref ul), some (.ref bs), some (.ref cl), some (.ref ft), y11, y12, y13, y14, none, none, none, none, none, none, none, none] ∧
    frs.map (·.nm) = fcs.take i ∧ (∀ f ∈ frs, FldAt H' f.da f.fds ∧ f.da ≠ ft ∧ H f.da = none ∧ 1 ≤ f.fds.length ∧ f.fds.length ≤ 4 ∧ (f.fds.map (·.1)).Nodup ∧ ∀ x ∈ f.fds, Com nm cm x) ∧ H' ft = some (.dK (fkvs frs)) ∧ Pre H' b r wl nl fl ul bs cl ws nm fcs uns l cm ∧ Gr b H H')
    ⟨none, none, none, none, [], rfl, rfl, (fun f m => by cases m), eft, P12, gC⟩ ?_ ?_ ?_
   ·rintro i σ H' _ ⟨_, _, _, _, frs, _, _, _, _, Pz, _⟩
    exact SqL.of Pz.hf
   ·rintro i x σ H1 ex ⟨y11, y12, y13, y14, frs, rfl, hnm, hat, eF, Pz, gz⟩
    rw [List.getElem?_map] at ex
    cases er : fcs[i]? with
    | none => rw [er] at ex; cases ex
    | some face =>
     rw [er] at ex
     cases ex
     have hi := (List.getElem?_eq_some_iff.mp er).1
     have hlen : frs.length = i := by
      have e := congrArg List.length hnm
      rw [List.length_map, List.length_take] at e
      omega
     have hface : face ∉ frs.map (·.nm) := by
      rw [hnm]
      have := name_new (f := fun z : Str => z) (ks := fcs) (by rw [List.map_id']; exact fnd) er
      rw [List.map_id'] at this
      exact this
     refine fun d nd => ?_
     have ndb := Pz.B.neb nd
     have ndr := Pz.B.ner nd
     have nd0 : H d = none := gz.free ndb nd
     have ndf : d ≠ ft := (ne_of_none eF nd).symm
     refine ⟨.ref ft, rfl, .str face, rfl, ft, _, rfl, DPut.k (k := Sum.inr face) (kvs := fkvs frs) (by rw [upd_ne (ne_of_none eF nd)]; exact eF) ?_, ?_⟩
     ·rw [show (fkvs frs).length = frs.length from List.length_map ..]
      exact Nat.lt_of_le_of_lt (show frs.length ≤ 1000 by omega) (by decide)
     have eput : putK (fkvs frs) (Sum.inr face) (.ref d) = fkvs (frs ++ [⟨face, d, []⟩]) := put_snoc (f := fun k : FRow => k.nm) (g := fun k => V.ref k.da) (r := ⟨face, d, []⟩) hface
     rw [eput]
     have eF0 : (upd H1 d (.dK [])) ft = some (.dK (fkvs frs)) := by rw [upd_ne (ne_of_none eF nd)]; exact eF
     have P2 : Pre (upd (upd H1 d (.dK [])) ft (.dK (fkvs (frs ++ [⟨face, d, []⟩])))) b r wl nl fl ul bs cl ws nm fcs uns l cm := (Pz.gl (Gr.new nd).gl (Pz.B.new nd)).gl (Gl.upd eF0) ((Pz.B.new nd).upd nftb nftr)
     have g2' : Gr b H (upd (upd H1 d (.dK [])) ft (.dK (fkvs (frs ++ [⟨face, d, []⟩])))) := (gz.trans (Gr.new nd)).upd nft0
     have hat2 : ∀ f ∈ frs, FldAt (upd (upd H1 d (.dK [])) ft (.dK (fkvs (frs ++ [⟨face, d, []⟩])))) f.da f.fds ∧ f.da ≠ d := fun f m => ⟨((hat f m).1.same (same_new nd)).put eF0 (hat f m).2.1, ne_of_none (hat f m).1.at_ nd⟩
     have eF2 : (upd (upd H1 d (.dK [])) ft (.dK (fkvs (frs ++ [⟨face, d, []⟩])))) ft = some (.dK (fkvs (frs ++ [⟨face, d, []⟩]))) := upd_same
     have ed2 : FldAt (upd (upd H1 d (.dK [])) ft (.dK (fkvs (frs ++ [⟨face, d, []⟩])))) d [] := ⟨by rw [upd_ne ndf, upd_same]; rfl, fun f m => by cases m⟩
     generalize upd (upd H1 d (.dK [])) ft (.dK (fkvs (frs ++ [⟨face, d, []⟩]))) = H2 at P2 g2' hat2 eF2 ed2
     refine ⟨.ref b, rfl, b, r, 2, rfl, P2.B, by decide, by decide, fun n H3 n0 n1 g3 B3 => ?_⟩
     obtain ⟨n, rfl⟩ := Int.eq_ofNat_of_zero_le n0
     have hn : n < 2 := by omega
     refine ⟨_, _, rfl, rfl, (1 + (n : Int)), rfl, by omega, by omega, ?_⟩
     rw [show ((1 : Int) + (n : Int)).toNat = n + 1 by omega]
     have P3 := P2.gl g3.gl B3
     obtain ⟨bx, ebx⟩ := P2.B.lst
     refine for_range (lo := 0) (n := n + 1) (fun j σ H' => ∃ (y12 y13 y14 : Option V) (fds : List Fld), σ = [some (.ref b), some (.int most), some (.int kinds), some (.int many), some (.ref wl), some (.ref nl), some (.ref fl), some (.ref ul), some (.ref bs), some (.ref cl), some (.ref ft), some (.str face), y12, y13, y14, none, none, none, none, none, none, none, none] ∧
      FldAt H' d fds ∧ (fds.map (·.1)).Nodup ∧ (∀ x ∈ fds, Com nm cm x) ∧ fds.length ≤ j ∧ (0 < j → 1 ≤ fds.length) ∧ (∀ f ∈ frs, FldAt H' f.da f.fds) ∧ H' ft = some (.dK (fkvs (frs ++ [⟨face, d, []⟩]))) ∧ Pre H' b r wl nl fl ul bs cl ws nm fcs uns l cm ∧ Gr b H H')
      ⟨y12, y13, y14, [], rfl, ed2.gr (Oth.lst ebx) g3, List.nodup_nil, (fun x m => by cases m), Nat.le_refl _, (fun h => absurd h (Nat.lt_irrefl _)), fun f m => (hat2 f m).1.gr (Oth.lst ebx) g3, g3 _ _ nftb eF2, P3, g2'.trans g3⟩ ?_ ?_
     ·rintro j σ H4 hj ⟨y12, y13, y14, fds, rfl, hd, hnd, hcom, hl1, hl2, hold, eF4, P4, g4⟩
      refine ⟨.ref b, rfl, b, r, 5, rfl, P4.B, by decide, by decide, fun at_ H5 a0 a1 g5 B5 => ?_⟩
      obtain ⟨at_, rfl⟩ := Int.eq_ofNat_of_zero_le a0
      have ha5 : at_ < 5 := by omega
      obtain ⟨bx4, ebx4⟩ := P4.B.lst
      have P5 := P4.gl g5.gl B5
      have hd5 := hd.gr (Oth.lst ebx4) g5
      have eF5 := g5 _ _ nftb eF4
      have hni : nm[at_]? = some (nm[at_]'(by omega)) := List.getElem?_eq_getElem _
      have hci : cm[at_]? = some (cm[at_]'(by omega)) := List.getElem?_eq_getElem _
      generalize nm[at_]'(by omega) = z at hni
      generalize cm[at_]'(by omega) = c at hci
      have an : atI (nm.map V.str) (at_ : Int) = some (.str z) := atI_nat (by rw [List.getElem?_map, hni]; rfl)
      have ac : atI (cm.map (·.1)) (at_ : Int) = some c.1 := atI_nat (by rw [List.getElem?_map, hci]; rfl)
      have vF : valV (fkvs (frs ++ [⟨face, d, []⟩])) (Sum.inr face) = some (.ref d) := fkvs_val (k := ⟨face, d, []⟩) (by
       rw [List.map_append]
       exact List.nodup_append.mpr ⟨by rw [hnm]; exact fnd.sublist (List.take_sublist _ _), by simp, fun a ha b hb e => hface (by rw [show face = a from (e.trans (List.mem_singleton.mp hb)).symm]; exact ha)⟩) (List.mem_append_right _ (List.mem_singleton.mpr rfl))
      refine ⟨.ref ft, rfl, .str face, rfl, ft, .ref d, rfl, .inl ⟨_, .inr face, .inl eF5, rfl, vF.symm⟩, ?_⟩
      refine ⟨.ref cl, rfl, .int at_, rfl, cl, _, _, c.1, rfl, rfl, SqL.of P5.hc, ac, .ref d, rfl, .ref nl, rfl, .int at_, rfl, nl, _, _, .str z, rfl, rfl, SqL.of P5.hn, an, d, _, rfl, DPut.k (k := Sum.inr z) hd5.at_ ?_, ?_⟩
      ·rw [show (fkv fds).length = fds.length from List.length_map ..]
       exact Nat.lt_of_le_of_lt (show fds.length ≤ 1000 by omega) (by decide)
      rw [show putK (fkv fds) (Sum.inr z) c.1 = fkv (putFl fds (z, c)) from putFl_kv fds (z, c)]
      have up : ∀ {v : V} {s : Shp}, ShAt H5 v s → ShAt (upd H5 d (.dK (fkv (putFl fds (z, c))))) v s := fun h => h.gr (xs := []) (.inr ⟨_, hd5.at_⟩) Gr.box
      have cz : Com nm cm (z, c) := ⟨at_, hni, hci⟩
      refine ⟨_, _, _, putFl fds (z, c), rfl, ⟨upd_same, fun x m => ?_⟩, putFl_nd hnd, fun x m => ?_, ?_, fun _ => List.length_pos_of_mem (putFl_has fds (z, c)), fun f m => ?_, ?_, P5.gl (Gl.upd hd5.at_) (B5.upd ndb ndr), (g4.trans g5).upd nd0⟩
      ·rcases putFl_mem m with rfl | ⟨m, _⟩
       ·exact up (P5.csh c (List.mem_of_getElem? hci)).1
       ·exact up (hd5.sh x m)
      ·rcases putFl_mem m with rfl | ⟨m, _⟩
       ·exact cz
       ·exact hcom x m
      ·have := putFl_len (fs := fds) (f := (z, c))
       omega
      ·exact ((hold f m).gr (Oth.lst ebx4) g5).put hd5.at_ (hat2 f m).2
      ·rw [upd_ne ndf.symm]
       exact eF5
     ·rintro σ H4 ⟨y12, y13, y14, fds, rfl, hd, hnd, hcom, hl1, hl2, hold, eF4, P4, g4⟩
      refine ⟨_, y12, y13, y14, frs ++ [⟨face, d, fds⟩], rfl, ?_, fun f m => ?_, ?_, P4, g4⟩
      ·rw [List.map_append, hnm, List.take_add_one, er]
       rfl
      ·rcases List.mem_append.mp m with m | m
       ·exact ⟨hold f m, (hat f m).2⟩
       ·obtain rfl := List.mem_singleton.mp m
        exact ⟨hd, ndf, nd0, hl2 (Nat.succ_pos _), by show fds.length ≤ 4; omega, hnd, hcom⟩
      ·rw [eF4]
       unfold fkvs
       rw [List.map_append, List.map_append]
       rfl
   ·rintro σ H1 ⟨y11, y12, y13, y14, frs, rfl, hnm, hat, eF, Pz, gz⟩
    rw [List.length_map, List.take_length] at hnm
    clear eft P12 gC nft
    refine fun kt nkt => ?_
    have nkb := Pz.B.neb nkt
    have nkr := Pz.B.ner nkt
    have nk0 : H kt = none := gz.free nkb nkt
    have nkf : kt ≠ ft := (ne_of_none eF nkt).symm
    have smk : Same H1 (upd H1 kt (.dK [])) := same_new nkt
    have hat1 : ∀ f ∈ frs, FldAt (upd H1 kt (.dK [])) f.da f.fds ∧ f.da ≠ kt := fun f m => ⟨(hat f m).1.same smk, ne_of_none (hat f m).1.at_ nkt⟩
    have hfp : ∀ f ∈ frs, f.da ≠ ft ∧ 1 ≤ f.fds.length ∧ f.fds.length ≤ 4 ∧ (f.fds.map (·.1)).Nodup ∧ ∀ x ∈ f.fds, Com nm cm x := fun f m => (hat f m).2.imp id fun h => h.2
    have P1' := Pz.gl (Gr.new (o := .dK []) nkt).gl (Pz.B.new nkt)
    have g1' := gz.trans (Gr.new (o := .dK []) nkt)
    have eF1 := smk _ _ eF
    have ek1 : (upd H1 kt (.dK [])) kt = some (.dK (kkv [])) := upd_same
    generalize upd H1 kt (.dK []) = H2 at hat1 P1' g1' eF1 ek1
    clear smk hat eF Pz gz nkt
    have fnm : ∀ z ∈ fcs, z ∈ frs.map (·.nm) := fun z m => by rw [hnm]; exact m
    have frnd : (frs.map (·.nm)).Nodup := by rw [hnm]; exact fnd
    refine ⟨.int many, rfl, many, rfl, by omega, by omega, for_range (lo := 0) (n := many) (fun i σ H' => ∃ (y11 y12 y13 y14 y16 y17 : Option V) (krs : List KRow), σ = [some (.ref b), some (.int most), some (.int kinds), some (.int many), some (.ref wl), some (.ref nl), some (.ref fl), some (.ref ul), some (.ref bs), some (.ref cl), some (.ref ft), y11, y12, y13, y14, some (.ref kt), y16, y17, none, none, none, none, none] ∧
     krs.map (·.nm) = ws.take i ∧ (∀ k ∈ krs, k.At H' ∧ k.da ≠ kt ∧ k.fcs.Nodup ∧ (∀ z ∈ k.fcs, z ∈ fcs) ∧ 1 ≤ k.fds.length ∧ k.fds.length ≤ 5 ∧ (k.fds.map (·.1)).Nodup ∧ (∀ f ∈ k.fds, f.1 ∈ nm ∧ okS l 4 false f.2.2) ∧ ∀ f ∈ frs, f.nm ∈ k.fcs → ∀ x ∈ f.fds, x ∈ k.fds) ∧
     (∀ (j : Nat) z, fcs[j]? = some z → j % many < i → ∃ k ∈ krs, z ∈ k.fcs) ∧ (∀ f ∈ frs, FldAt H' f.da f.fds) ∧ H' ft = some (.dK (fkvs frs)) ∧ H' kt = some (.dK (kkv krs)) ∧ Pre H' b r wl nl fl ul bs cl ws nm fcs uns l cm ∧ Gr b H H') ?_ ?_ ?_⟩
    ·exact ⟨y11, y12, y13, y14, none, none, [], rfl, rfl, (fun k m => by cases m), (fun j z _ h => absurd h (Nat.not_lt_zero _)), fun f m => (hat1 f m).1, eF1, ek1, P1', g1'⟩
    ·rintro i σ H3 hi ⟨y11, y12, y13, y14, y16, y17, krs, rfl, knm, hk, hcov, hfr, eF3, eK3, P3, g3⟩
     have hlen : krs.length = i := by
      have e := congrArg List.length knm
      rw [List.length_map, List.length_take] at e
      omega
     refine ⟨.ref fl, rfl, fl, fcs.map V.str, rfl, SqL.of P3.hf, fun ha nha => ?_⟩
     have nhb := P3.B.neb nha
     have nhr := P3.B.ner nha
     refine lc_it (walk_enum (xs := fcs.map V.str)) (fun j H' => ∃ hv : List Str, hv.Nodup ∧ (∀ z ∈ hv, z ∈ fcs.take j) ∧ (∀ (j' : Nat) z, j' < j → fcs[j']? = some z → j' % many = i → z ∈ hv) ∧ Gr b H3 H' ∧ Box H' b r ∧ H' ha = some (.lst (hv.map V.str)))
      ⟨[], List.nodup_nil, (fun z m => by cases m), (fun j' z h => absurd h (Nat.not_lt_zero _)), Gr.new nha, P3.B.new nha, upd_same⟩ (fun j H' _ p => by
       obtain ⟨hv, _, _, _, g, _, _⟩ := p
       exact SqL.of (g _ _ n3b P3.hf)) ?_ ?_
     ·rintro j x H4 H5 hj ⟨hv, hvn, hvs, hvc, g4, B4, e4⟩ ⟨tT, x1, x2, rfl, nT, rfl, f1, f2⟩
      cases f1
      have f2 : (fcs.map V.str)[j]? = some x2 := f2
      cases ej : fcs[j]? with
      | none => rw [List.getElem?_map, ej] at f2; cases f2
      | some face =>
       rw [List.getElem?_map, ej] at f2
       cases f2
       have g5 : Gr b H3 (upd H4 tT (.tup [.int (j : Nat), .str face])) := g4.trans (Gr.new nT)
       have B5 := B4.new (o := .tup [.int (j : Nat), .str face]) nT
       have e5 : (upd H4 tT (.tup [.int (j : Nat), .str face])) ha = some (.lst (hv.map V.str)) := by rw [upd_ne (ne_of_none e4 nT)]; exact e4
       refine ⟨tT, _, rfl, .inl (.inl upd_same), rfl, .int (j : Nat), [.str face], rfl, .str face, [], rfl, rfl, rfl, ?_⟩
       generalize upd H4 tT (.tup [.int (j : Nat), .str face]) = H5 at g5 B5 e5
       have fnew : face ∉ fcs.take j := by
        have := name_new (f := fun z : Str => z) (ks := fcs) (by rw [List.map_id']; exact fnd) ej
        rw [List.map_id'] at this
        exact this
       have tk : fcs.take (j + 1) = fcs.take j ++ [face] := by rw [List.take_add_one, ej]; rfl
       have hvl : hv.length ≤ 3 := by
        have := len_le_of_sub hvn fun z m => List.mem_of_mem_take (hvs z m)
        omega
       have yes : ∀ {H6 : Hp}, Gr b H3 H6 → Box H6 b r → H6 ha = some (.lst (hv.map V.str)) → ∃ acc, H6 ha = some (.lst acc) ∧ acc.length < sizeLine ∧ ∃ hv' : List Str, hv'.Nodup ∧ (∀ z ∈ hv', z ∈ fcs.take (j + 1)) ∧ (∀ (j' : Nat) z, j' < j + 1 → fcs[j']? = some z → j' % many = i → z ∈ hv') ∧ Gr b H3 (upd H6 ha (.lst (acc ++ [.str face]))) ∧ Box (upd H6 ha (.lst (acc ++ [.str face]))) b r ∧ (upd H6 ha (.lst (acc ++ [.str face]))) ha = some (.lst (hv'.map V.str)) := fun {H6} g6 B6 e6 => by
        refine ⟨_, e6, ?_, hv ++ [face], ?_, fun z m => ?_, fun j' z h1 h2 h3 => ?_, g6.upd nha, B6.upd nhb nhr, ?_⟩
        ·rw [List.length_map]
         exact Nat.lt_of_le_of_lt (show hv.length ≤ 1000 by omega) (by decide)
        ·exact List.nodup_append.mpr ⟨hvn, by simp, fun a ha b hb e => fnew (by rw [show face = a from (e.trans (List.mem_singleton.mp hb)).symm]; exact hvs a ha)⟩
        ·rw [tk]
         rcases List.mem_append.mp m with m | m
         ·exact List.mem_append_left _ (hvs z m)
         ·exact List.mem_append_right _ m
        ·by_cases e : j' = j
         ·subst e
          rw [ej] at h2
          cases h2
          exact List.mem_append_right _ (List.mem_singleton.mpr rfl)
         ·exact List.mem_append_left _ (hvc j' z (by omega) h2 h3)
        ·rw [upd_same, List.map_append]
         rfl
       have hmod : ((j : Int)).fmod (many : Int) = ((j % many : Nat) : Int) := by
        rw [Int.fmod_eq_emod_of_nonneg _ (by omega)]
        omega
       refine ⟨.int (j : Nat), rfl, .inl ⟨_, rfl, .int many, rfl, _, _, rfl, rfl, (by show (many : Int) ≠ 0; omega), .int (0 + i), rfl, rfl, _, rfl, ite2 (fun e => ?_) (fun e => ?_)⟩⟩
       ·exact iteT ⟨.str face, rfl, yes g5 B5 e5⟩
       ·refine ⟨.ref b, rfl, b, r, 2, rfl, B5, by decide, by decide, fun dd H6 _ _ g6 B6 => ⟨rfl, _, rfl, ite2 (fun e2 => ?_) (fun e2 => ?_)⟩⟩
        ·exact ⟨.str face, rfl, yes (g5.trans g6) B6 (g6 _ _ nhb e5)⟩
        ·refine ⟨hv, hvn, fun z m => by rw [tk]; exact List.mem_append_left _ (hvs z m), fun j' z h1 h2 h3 => ?_, g5.trans g6, B6, g6 _ _ nhb e5⟩
         by_cases ee : j' = j
         ·subst ee
          refine absurd (decide_eq_true ?_) e
          show V.int (((j' : Nat) : Int).fmod (many : Int)) = V.int (0 + (i : Int))
          rw [hmod, h3, Int.zero_add]
         ·exact hvc j' z (by omega) h2 h3
     ·rintro H4 ⟨hv, hvn, hvs, hvc, g4, B4, e4⟩
      rw [List.length_map, List.take_length] at hvs
      obtain ⟨rows, rnm, rsub⟩ := rows_of (frs := frs) (hv := hv) fun z m => fnm z (hvs z m)
      have hvl : hv.length ≤ 3 := by
       have := len_le_of_sub hvn hvs
       omega
      have rlen : rows.length = hv.length := by rw [← rnm, List.length_map]
      obtain ⟨bx3, ebx3⟩ := P3.B.lst
      have P4 := P3.gl g4.gl B4
      have eF4 := g4 _ _ nftb eF3
      refine ⟨.ref ha, rfl, ha, rfl, ⟨_, SqL.of e4⟩, fun ga nga => ?_⟩
      have ngb := B4.neb nga
      have ngr := B4.ner nga
      refine lc_list (xs := hv.map V.str) (fun j H' => H' = upd H4 ga (.lst ((rows.take j).map fun k => V.ref k.da))) rfl (fun j H' _ e => by rw [e]; exact SqL.of (by rw [upd_ne (ne_of_none e4 nga)]; exact e4)) ?_ ?_
      ·rintro j x H5 ex rfl
       cases ej : hv[j]? with
       | none => rw [List.getElem?_map, ej] at ex; cases ex
       | some z =>
        rw [List.getElem?_map, ej] at ex
        cases ex
        have hj := (List.getElem?_eq_some_iff.mp ej).1
        have ejr : rows[j]? = some (rows[j]'(by omega)) := List.getElem?_eq_getElem _
        generalize rows[j]'(by omega) = row at ejr
        have ezr : row.nm = z := by
         have e1 : (rows.map (·.nm))[j]? = some row.nm := by rw [List.getElem?_map, ejr]; rfl
         rw [rnm, ej] at e1
         exact (Option.some.inj e1).symm
        have rm := rsub row (List.mem_of_getElem? ejr)
        refine ⟨rfl, lcT ⟨.ref ft, rfl, .str z, rfl, ft, .ref row.da, rfl, .inl ⟨fkvs frs, .inr z, .inl (by rw [upd_ne (ne_of_none eF4 nga)]; exact eF4), rfl, by rw [← ezr]; exact (fkvs_val frnd rm).symm⟩, _, upd_same, ?_, ?_⟩⟩
        ·rw [List.length_map, List.length_take]
         exact Nat.lt_of_le_of_lt (show min j rows.length ≤ 1000 by omega) (by decide)
        ·rw [upd_upd, List.take_add_one, ejr, List.map_append]
         rfl
      ·rintro H5 rfl
       rw [List.length_map, ← rlen, List.take_length]
       have g5 : Gr b H3 (upd H4 ga (.lst (rows.map fun k => V.ref k.da))) := g4.trans (Gr.new nga)
       have P5 := P4.gl (Gr.new (o := .lst (rows.map fun k => V.ref k.da)) nga).gl (B4.new nga)
       have eg5 : (upd H4 ga (.lst (rows.map fun k => V.ref k.da))) ga = some (.lst (rows.map fun k => V.ref k.da)) := upd_same
       have eh5 : (upd H4 ga (.lst (rows.map fun k => V.ref k.da))) ha = some (.lst (hv.map V.str)) := by rw [upd_ne (ne_of_none e4 nga)]; exact e4
       generalize upd H4 ga (.lst (rows.map fun k => V.ref k.da)) = H5 at g5 P5 eg5 eh5
       refine ⟨.ref ha, rfl, ha, _, rfl, .inl ⟨SqL.of eh5, fun tp ntp => ?_⟩⟩
       have g6 : Gr b H3 (upd H5 tp (.tup (hv.map V.str))) := g5.trans (Gr.new ntp)
       have P6 := P5.gl (Gr.new (o := .tup (hv.map V.str)) ntp).gl (P5.B.new ntp)
       have eg6 : (upd H5 tp (.tup (hv.map V.str))) ga = some (.lst (rows.map fun k => V.ref k.da)) := by rw [upd_ne (ne_of_none eg5 ntp)]; exact eg5
       have et6 : (upd H5 tp (.tup (hv.map V.str))) tp = some (.tup (hv.map V.str)) := upd_same
       generalize upd H5 tp (.tup (hv.map V.str)) = H6 at g6 P6 eg6 et6
       refine ⟨.ref b, rfl, .ref ga, rfl, .ref nl, rfl, .ref cl, rfl, .ref bs, rfl, .int most, rfl, b, r, ga, nl, cl, bs, rows, nm, cm, l, most, rfl, ?_, hmost, fun t fds H7 nt ht t1 t5 tnd tok tall g7 B7 => ?_⟩
       ·exact ⟨P6.B, eg6, P6.hn, P6.hc, P6.hb, ngb, nnb, n6b', n5b, fun k m => (hfr k (rsub k m)).gr (Oth.lst ebx3) g6, by omega, hnl, hnnd, hcl, P6.csh, fun k m f hf => (hfp k (rsub k m)).2.2.2.2 f hf, fun k m => (hfp k (rsub k m)).2.2.2.1, by omega, by omega⟩
       have ntb := P6.B.neb nt
       have ntpb : tp ≠ b := by
        obtain ⟨bx6, ebx6⟩ := P6.B.lst
        exact ne_of et6 ebx6 (by intro z; cases z)
       have g37 : Gr b H3 H7 := g6.trans g7
       have eK7 := g37 _ _ nkb eK3
       have et7 := g7 _ _ ntpb et6
       have ntk : t ≠ kt := (ne_of_none (g6 _ _ nkb eK3) nt).symm
       refine ⟨by show 2 ≤ sizeLine; decide, fun q1 nq => ?_⟩
       have g8 : Gr b H3 (upd H7 q1 (.tup [.ref tp, .ref t])) := g37.trans (Gr.new nq)
       have B8 := B7.new (o := .tup [.ref tp, .ref t]) nq
       have sm8 : Same H7 (upd H7 q1 (.tup [.ref tp, .ref t])) := same_new nq
       have eq8 : (upd H7 q1 (.tup [.ref tp, .ref t])) q1 = some (.tup [.ref tp, .ref t]) := upd_same
       generalize upd H7 q1 (.tup [.ref tp, .ref t]) = H8 at g8 B8 sm8 eq8
       have P8 := P3.gl g8.gl B8
       have eK8 := g8 _ _ nkb eK3
       have hwi : ws[i]? = some (ws[i]'(by omega)) := List.getElem?_eq_getElem _
       generalize ws[i]'(by omega) = wd at hwi
       have aw : atI (ws.map V.str) (0 + (i : Int)) = some (.str wd) := at_of (j := i) (by omega) (by rw [List.getElem?_map, hwi]; rfl)
       refine ⟨.ref kt, rfl, .ref wl, rfl, _, rfl, wl, _, _, .str wd, rfl, rfl, SqL.of P8.hw, aw, kt, _, rfl, DPut.k (k := Sum.inr wd) eK8 ?_, ?_⟩
       ·rw [show (kkv krs).length = krs.length from List.length_map ..]
        exact Nat.lt_of_le_of_lt (show krs.length ≤ 1000 by omega) (by decide)
       have wnew : wd ∉ krs.map (·.nm) := by
        rw [knm]
        have := name_new (f := fun z : Str => z) (ks := ws) (by rw [List.map_id']; exact hwnd) hwi
        rw [List.map_id'] at this
        exact this
       rw [show putK (kkv krs) (Sum.inr wd) (.ref q1) = kkv (krs ++ [⟨wd, q1, tp, t, hv, fds⟩]) from put_snoc (f := fun k : KRow => k.nm) (g := fun k => V.ref k.t) (r := ⟨wd, q1, tp, t, hv, fds⟩) wnew]
       have row8 : (KRow.mk wd q1 tp t hv fds).At H8 := ⟨eq8, sm8 _ _ et7, ht.same sm8⟩
       refine ⟨y11, _, y13, y14, some (.ref ha), some (.ref ga), krs ++ [⟨wd, q1, tp, t, hv, fds⟩], rfl, ?_, fun k m => ?_, fun j z hz hj => ?_, fun f m => ?_, ?_, upd_same, P8.gl (Gl.upd eK8) (B8.upd nkb nkr), (g3.trans g8).upd nk0⟩
       ·rw [List.map_append, knm, List.take_add_one, hwi]
        rfl
       ·rcases List.mem_append.mp m with m | m
        ·obtain ⟨h1, h2, h3⟩ := hk k m
         exact ⟨(h1.gr (Oth.lst ebx3) g8).put eK8 h2, h2, h3⟩
        ·obtain rfl := List.mem_singleton.mp m
         refine ⟨row8.put eK8 ntk, ntk, hvn, hvs, t1, t5, tnd, tok, fun f hf hin x hx => ?_⟩
         obtain ⟨row, rm, rn⟩ := List.mem_map.mp (show f.nm ∈ rows.map (·.nm) by rw [rnm]; exact hin)
         have : row = f := by
          have h1 := fkvs_val frnd (rsub row rm)
          obtain ⟨i1, hi1, e1⟩ := List.getElem_of_mem (rsub row rm)
          obtain ⟨i2, hi2, e2⟩ := List.getElem_of_mem hf
          have hh : (frs.map (·.nm))[i1]'(by rw [List.length_map]; exact hi1) = (frs.map (·.nm))[i2]'(by rw [List.length_map]; exact hi2) := by
           rw [List.getElem_map, List.getElem_map, e1, e2, rn]
          have := (List.getElem_inj frnd).mp hh
          subst this
          rw [← e1, ← e2]
         exact tall f (this ▸ rm) x hx
       ·by_cases e : j % many = i
        ·exact ⟨_, List.mem_append_right _ (List.mem_singleton.mpr rfl), hvc j z (by have := (List.getElem?_eq_some_iff.mp hz).1; rw [List.length_map]; exact this) hz e⟩
        ·obtain ⟨k, hk1, hk2⟩ := hcov j z hz (by omega)
         exact ⟨k, List.mem_append_left _ hk1, hk2⟩
       ·exact ((hfr f m).gr (Oth.lst ebx3) g8).put eK8 (hat1 f m).2
       ·rw [upd_ne nkf.symm]
        exact g8 _ _ nftb eF3
    ·rintro σ H3 ⟨y11, y12, y13, y14, y16, y17, krs, rfl, knm, hk, hcov, hfr, eF3, eK3, P3, g3⟩
     clear ek1 P1' g1' eF1
     refine fun ut nut => ?_
     have nub := P3.B.neb nut
     have nur := P3.B.ner nut
     have nu0 : H ut = none := g3.free nub nut
     have nuk : ut ≠ kt := (ne_of_none eK3 nut).symm
     have nuf : ut ≠ ft := (ne_of_none eF3 nut).symm
     have smu : Same H3 (upd H3 ut (.dK [])) := same_new nut
     have kat : ∀ k ∈ krs, k.At (upd H3 ut (.dK [])) ∧ k.da ≠ ut := fun k m => ⟨(hk k m).1.same smu, ne_of_none (hk k m).1.d.at_ nut⟩
     have fat : ∀ f ∈ frs, FldAt (upd H3 ut (.dK [])) f.da f.fds ∧ f.da ≠ ut := fun f m => ⟨(hfr f m).same smu, ne_of_none (hfr f m).at_ nut⟩
     have kpr : ∀ k ∈ krs, k.fcs.Nodup ∧ (∀ z ∈ k.fcs, z ∈ fcs) ∧ 1 ≤ k.fds.length ∧ k.fds.length ≤ 5 ∧ (k.fds.map (·.1)).Nodup ∧ (∀ f ∈ k.fds, f.1 ∈ nm ∧ okS l 4 false f.2.2) ∧ ∀ f ∈ frs, f.nm ∈ k.fcs → ∀ x ∈ f.fds, x ∈ k.fds := fun k m => (hk k m).2.2
     have P4 := P3.gl (Gr.new (o := .dK []) nut).gl (P3.B.new nut)
     have g4' := g3.trans (Gr.new (o := .dK []) nut)
     have eF4 := smu _ _ eF3
     have eK4 := smu _ _ eK3
     have eU4 : (upd H3 ut (.dK [])) ut = some (.dK (ukv [])) := upd_same
     generalize upd H3 ut (.dK []) = H4 at kat fat P4 g4' eF4 eK4 eU4
     clear smu hk hfr P3 g3 eF3 eK3 nut hat1
     refine ⟨.ref ul, rfl, ul, rfl, ⟨_, SqL.of P4.hu⟩, ?_⟩
     refine for_list (xs := uns.map V.str) (fun i σ H' => ∃ (y19 y20 : Option V) (urs : List URow), σ = [some (.ref b), some (.int most), some (.int kinds), some (.int many), some (.ref wl), some (.ref nl), some (.ref fl), some (.ref ul), some (.ref bs), some (.ref cl), some (.ref ft), y11, y12, y13, y14, some (.ref kt), y16, y17, some (.ref ut), y19, y20, none, none] ∧
      urs.map (·.nm) = uns.take i ∧ (∀ u ∈ urs, H' u.t = some (.tup (u.ms.map V.str)) ∧ u.ms.Nodup ∧ 1 ≤ u.ms.length ∧ u.ms.length ≤ 4 ∧ ∀ z ∈ u.ms, z ∈ ws.take many) ∧ (∀ k ∈ krs, k.At H') ∧ (∀ f ∈ frs, FldAt H' f.da f.fds) ∧ H' ft = some (.dK (fkvs frs)) ∧ H' kt = some (.dK (kkv krs)) ∧ H' ut = some (.dK (ukv urs)) ∧ Pre H' b r wl nl fl ul bs cl ws nm fcs uns l cm ∧ Gr b H H')
      ⟨none, none, [], rfl, rfl, (fun u m => by cases m), fun k m => (kat k m).1, fun f m => (fat f m).1, eF4, eK4, eU4, P4, g4'⟩ ?_ ?_ ?_
     ·rintro i σ H' _ ⟨_, _, urs, _, _, _, _, _, _, _, _, Pz, _⟩
      exact SqL.of Pz.hu
     ·rintro i x σ H5 ex ⟨y19, y20, urs, rfl, unm, hu5, hk5, hf5, eF5, eK5, eU5, P5, g5⟩
      rw [List.getElem?_map] at ex
      cases er : uns[i]? with
      | none => rw [er] at ex; cases ex
      | some un =>
       rw [er] at ex
       cases ex
       have hi := (List.getElem?_eq_some_iff.mp er).1
       have hlen : urs.length = i := by
        have e := congrArg List.length unm
        rw [List.length_map, List.length_take] at e
        omega
       refine ⟨.ref wl, rfl, .int many, rfl, many, rfl, wl, ws.map V.str, rfl, SqL.of P5.hw, fun sl nsl => ⟨sl, rfl, ⟨_, SqL.of upd_same⟩, fun ow now => ?_⟩⟩
       rw [cut_to (by omega), ← List.map_take] at now ⊢
       have B6 := P5.B.new (o := .lst ((ws.take many).map V.str)) nsl
       have g6 : Gr b H5 (upd H5 sl (.lst ((ws.take many).map V.str))) := Gr.new nsl
       have es6 : (upd H5 sl (.lst ((ws.take many).map V.str))) sl = some (.lst ((ws.take many).map V.str)) := upd_same
       have nslb := P5.B.neb nsl
       generalize upd H5 sl (.lst ((ws.take many).map V.str)) = H6 at B6 g6 es6 now
       have nob := B6.neb now
       have nor := B6.ner now
       refine lc_list (xs := (ws.take many).map V.str) (fun j H' => ∃ os : List Str, os.Nodup ∧ (∀ z ∈ os, z ∈ (ws.take many).take j) ∧ Gr b H6 H' ∧ Box H' b r ∧ H' ow = some (.lst (os.map V.str))) ⟨[], List.nodup_nil, (fun z m => by cases m), Gr.new now, B6.new now, upd_same⟩
        (fun j H' _ p => by
         obtain ⟨os, _, _, g, _, _⟩ := p
         exact SqL.of (g _ _ nslb es6)) ?_ ?_
       ·rintro j x H7 ex ⟨os, osn, oss, g7, B7, e7⟩
        cases ej : (ws.take many)[j]? with
        | none => rw [List.getElem?_map, ej] at ex; cases ex
        | some wd =>
         rw [List.getElem?_map, ej] at ex
         cases ex
         have tk : (ws.take many).take (j + 1) = (ws.take many).take j ++ [wd] := by rw [List.take_add_one, ej]; rfl
         have tnd : (ws.take many).Nodup := hwnd.sublist (List.take_sublist _ _)
         have wnew : wd ∉ (ws.take many).take j := by
          have := name_new (f := fun z : Str => z) (ks := ws.take many) (by rw [List.map_id']; exact tnd) ej
          rw [List.map_id'] at this
          exact this
         have osl : os.length ≤ many := by
          have := len_le_of_sub osn fun z m => List.mem_of_mem_take (oss z m)
          omega
         refine ⟨rfl, .ref b, rfl, b, r, 2, rfl, B7, by decide, by decide, fun dd H8 _ _ g8 B8 => ⟨rfl, _, rfl, ite2 (fun e => ?_) (fun e => ?_)⟩⟩
         ·refine ⟨.str wd, rfl, _, g8 _ _ nob e7, ?_, os ++ [wd], ?_, fun z m => ?_, (g7.trans g8).upd now, B8.upd nob nor, ?_⟩
          ·rw [List.length_map]
           exact Nat.lt_of_le_of_lt (show os.length ≤ 1000 by omega) (by decide)
          ·exact List.nodup_append.mpr ⟨osn, by simp, fun a ha b hb e => wnew (by rw [show wd = a from (e.trans (List.mem_singleton.mp hb)).symm]; exact oss a ha)⟩
          ·rw [tk]
           rcases List.mem_append.mp m with m | m
           ·exact List.mem_append_left _ (oss z m)
           ·exact List.mem_append_right _ m
          ·rw [upd_same, List.map_append]
           rfl
         ·exact ⟨os, osn, fun z m => by rw [tk]; exact List.mem_append_left _ (oss z m), g7.trans g8, B8, g8 _ _ nob e7⟩
       ·rintro H7 ⟨os, osn, oss, g7, B7, e7⟩
        rw [List.length_map, List.take_length] at oss
        have osl : os.length ≤ many := by
         have := len_le_of_sub osn oss
         omega
        have osN : ∀ z ∈ os, IsName z := fun z m => (hwok z (List.mem_of_mem_take (oss z m))).1
        refine ⟨.ref ow, rfl, 4, rfl, ow, _, rfl, SqL.of e7, fun o4 no4 => ?_⟩
        rw [show (4 : Int) = ((4 : Nat) : Int) from rfl, cut_to', ← List.map_take]
        have s8 : Same H7 (upd H7 o4 (.lst ((os.take 4).map V.str))) := same_new no4
        have e84 : (upd H7 o4 (.lst ((os.take 4).map V.str))) o4 = some (.lst ((os.take 4).map V.str)) := upd_same
        have B8 := B7.new (o := .lst ((os.take 4).map V.str)) no4
        have no4b := B7.neb no4
        generalize upd H7 o4 (.lst ((os.take 4).map V.str)) = H8 at s8 e84 B8
        refine ⟨.ref ow, rfl, Nat.zero_le _, fun e0 ne0 => ?_⟩
        have s9 : Same H8 (upd H8 e0 (.lst [])) := same_new ne0
        have e90 : (upd H8 e0 (.lst [])) e0 = some (.lst []) := upd_same
        have B9 := B8.new (o := .lst []) ne0
        generalize upd H8 e0 (.lst []) = H9 at s9 e90 B9
        have e97 := s9 _ _ (s8 _ _ e7)
        have e94 := s9 _ _ e84
        refine ⟨.list (os.map PyData.str), .list [], .lst (SqL.of e97) (dp_strs os), .lst (SqL.of e90) .nil, shaped_strs osN, shaped_strs (l := []) (fun z m => by cases m), .inr ⟨_, rfl, ?_⟩⟩
        rw [eqv_nil]
        have g69 : Gr b H6 H9 := g7.trans ((gr_x s8).trans (gr_x s9))
        have P9 := P5.gl (g6.trans g69).gl B9
        have fin : ∀ (H12 : Hp) (p2 : Addr) (ms : List Str) (y20' : Option V), Gr b H5 H12 → Box H12 b r → H12 p2 = some (.lst (ms.map V.str)) → ms.Nodup → 1 ≤ ms.length → ms.length ≤ 4 → (∀ z ∈ ms, z ∈ ws.take many) → p2 ≠ b → ∀ (Z : L2.St → Hp → Prop), True := fun _ _ _ _ _ _ _ _ _ _ _ _ _ => trivial
        have hd4 : (os.take 4).Nodup := osn.sublist (List.take_sublist _ _)
        have hs4 : ∀ z ∈ os.take 4, z ∈ ws.take many := fun z m => oss z (List.mem_of_mem_take m)
        have hl4 : (os.take 4).length ≤ 4 := List.length_take_le _ _
        refine ⟨_, rfl, (by split <;> decide), (by split <;> decide), fun ad nad => ?_⟩
        have nadb := B9.neb nad
        have nadr := B9.ner nad
        refine lc_range (lo := 0) (n := (if (os.length == 0) = true then (1 : Int) else 0).toNat) (fun j H' => ∃ ax : List Str, ax.length = j ∧ (∀ z ∈ ax, z ∈ ws.take many) ∧ Gr b H9 H' ∧ Box H' b r ∧ H' ad = some (.lst (ax.map V.str))) ⟨[], rfl, (fun z m => by cases m), Gr.new nad, B9.new nad, upd_same⟩ ?_ ?_
        ·rintro j H10 hj ⟨ax, axl, axs, g10, B10, e10⟩
         have hj1 : j < 1 := by
          have : (if (os.length == 0) = true then (1 : Int) else 0).toNat ≤ 1 := by split <;> decide
          omega
         refine ⟨rfl, lcT ⟨.ref wl, rfl, .ref b, rfl, .int many, rfl, b, r, many, rfl, B10, by omega, by omega, fun dd H11 dd0 dd1 g11 B11 => ?_⟩⟩
         obtain ⟨dd, rfl⟩ := Int.eq_ofNat_of_zero_le dd0
         have hdd : dd < many := by omega
         have hwd : ws[dd]? = some (ws[dd]'(by omega)) := List.getElem?_eq_getElem _
         generalize ws[dd]'(by omega) = wd at hwd
         have wm : wd ∈ ws.take many := List.mem_of_getElem? (i := dd) (by rw [List.getElem?_take_of_lt hdd]; exact hwd)
         have P11 := P9.gl (g10.trans g11).gl B11
         refine ⟨wl, _, dd, .str wd, rfl, rfl, SqL.of P11.hw, atI_nat (by rw [List.getElem?_map, hwd]; rfl), _, g11 _ _ nadb e10, ?_, ax ++ [wd], ?_, fun z m => ?_, (g10.trans g11).upd nad, B11.upd nadb nadr, ?_⟩
         ·rw [List.length_map]
          exact Nat.lt_of_le_of_lt (show ax.length ≤ 1000 by omega) (by decide)
         ·rw [List.length_append, axl]; rfl
         ·rcases List.mem_append.mp m with m | m
          ·exact axs z m
          ·rw [List.mem_singleton.mp m]; exact wm
         ·rw [upd_same, List.map_append]
          rfl
        ·rintro H10 ⟨ax, axl, axs, g10, B10, e10⟩
         have e104 := g10 _ _ no4b e94
         have al : ax.length ≤ 1 := by
          rw [axl]
          split <;> decide
         refine ⟨o4, ad, _, _, rfl, rfl, e104, e10, hS _ (by rw [List.length_map, List.length_map]; omega), fun p2 np2 => ?_⟩
         have e11 : (upd H10 p2 (.lst ((os.take 4).map V.str ++ ax.map V.str))) p2 = some (.lst ((os.take 4 ++ ax).map V.str)) := by rw [upd_same, List.map_append]
         have g59 : Gr b H5 H10 := (g6.trans g69).trans g10
         have g511 : Gr b H5 (upd H10 p2 (.lst ((os.take 4).map V.str ++ ax.map V.str))) := g59.trans (Gr.new np2)
         have B11 := B10.new (o := .lst ((os.take 4).map V.str ++ ax.map V.str)) np2
         generalize upd H10 p2 (.lst ((os.take 4).map V.str ++ ax.map V.str)) = H11 at e11 g511 B11
         have mprop : (os.take 4 ++ ax).Nodup ∧ 1 ≤ (os.take 4 ++ ax).length ∧ (os.take 4 ++ ax).length ≤ 4 ∧ ∀ z ∈ os.take 4 ++ ax, z ∈ ws.take many := by
          cases os with
          | nil =>
           have a1 : ax.length = 1 := axl
           obtain ⟨x, rfl⟩ := List.length_eq_one_iff.mp a1
           exact ⟨by simp, by simp, by simp, fun z m => axs z (by simpa using m)⟩
          | cons o os' =>
           have a0 : ax.length = 0 := axl
           obtain rfl := List.length_eq_zero_iff.mp a0
           rw [List.append_nil]
           exact ⟨hd4, by rw [List.length_take, List.length_cons]; omega, hl4, hs4⟩
         generalize os.take 4 ++ ax = ms at e11 mprop
         obtain ⟨m1, m2, m3, m4⟩ := mprop
         refine ⟨.ref p2, rfl, p2, _, rfl, SqL.of e11, fun p3 np3 => ⟨p3, _, rfl, .inl ⟨SqL.of upd_same, fun p4 np4 => ?_⟩⟩⟩
         rw [← List.map_reverse] at np4 ⊢
         have g512 : Gr b H5 (upd (upd H11 p3 (.lst (ms.reverse.map V.str))) p4 (.tup (ms.reverse.map V.str))) := g511.trans ((Gr.new np3).trans (Gr.new np4))
         have B12 := (B11.new (o := .lst (ms.reverse.map V.str)) np3).new (o := .tup (ms.reverse.map V.str)) np4
         have e12 : (upd (upd H11 p3 (.lst (ms.reverse.map V.str))) p4 (.tup (ms.reverse.map V.str))) p4 = some (.tup (ms.reverse.map V.str)) := upd_same
         generalize upd (upd H11 p3 (.lst (ms.reverse.map V.str))) p4 (.tup (ms.reverse.map V.str)) = H12 at g512 B12 e12
         have eU12 := g512 _ _ nub eU5
         obtain ⟨bx5, ebx5⟩ := P5.B.lst
         refine ⟨.ref ut, rfl, .str un, rfl, ut, _, rfl, DPut.k (k := Sum.inr un) eU12 ?_, ?_⟩
         ·rw [show (ukv urs).length = urs.length from List.length_map ..]
          exact Nat.lt_of_le_of_lt (show urs.length ≤ 1000 by omega) (by decide)
         have unew : un ∉ urs.map (·.nm) := by
          rw [unm]
          have := name_new (f := fun z : Str => z) (ks := uns) (by rw [List.map_id']; exact und) er
          rw [List.map_id'] at this
          exact this
         rw [show putK (ukv urs) (Sum.inr un) (.ref p4) = ukv (urs ++ [⟨un, p4, ms.reverse⟩]) from put_snoc (f := fun k : URow => k.nm) (g := fun k => V.ref k.t) (r := ⟨un, p4, ms.reverse⟩) unew]
         have P12 := P5.gl g512.gl B12
         have tup12 : ∀ {a : Addr} {xs : List V}, H12 a = some (.tup xs) → (upd H12 ut (.dK (ukv (urs ++ [⟨un, p4, ms.reverse⟩])))) a = some (.tup xs) := fun e => by
          rw [upd_ne (ne_of e eU12 (by intro z; cases z))]
          exact e
         refine ⟨_, _, urs ++ [⟨un, p4, ms.reverse⟩], rfl, ?_, fun u m => ?_, fun k m => ((hk5 k m).gr (Oth.lst ebx5) g512).put eU12 (kat k m).2, fun f m => ((hf5 f m).gr (Oth.lst ebx5) g512).put eU12 (fat f m).2, ?_, ?_, upd_same, P12.gl (Gl.upd eU12) (B12.upd nub nur), (g5.trans g512).upd nu0⟩
         ·rw [List.map_append, unm, List.take_add_one, er]
          rfl
         ·rcases List.mem_append.mp m with m | m
          ·exact ⟨tup12 (g512 _ _ ((Oth.lst ebx5).net (hu5 u m).1) (hu5 u m).1), (hu5 u m).2⟩
          ·obtain rfl := List.mem_singleton.mp m
           exact ⟨tup12 e12, (List.reverse_perm ms).nodup_iff.mpr m1, by show 1 ≤ ms.reverse.length; rw [List.length_reverse]; exact m2, by show ms.reverse.length ≤ 4; rw [List.length_reverse]; exact m3, fun z mz => m4 z (List.mem_reverse.mp mz)⟩
         ·rw [upd_ne nuf.symm]
          exact g512 _ _ nftb eF5
         ·rw [upd_ne nuk.symm]
          exact g512 _ _ nkb eK5
     ·rintro σ H5 ⟨y19, y20, urs, rfl, unm, hu5, hk5, hf5, eF5, eK5, eU5, P5, g5⟩
      rw [List.length_map, List.take_length] at unm
      refine ⟨.ref kt, rfl, .ref ft, rfl, .ref ut, rfl, .ref wl, rfl, .ref b, rfl, .int many, rfl, b, r, many, rfl, P5.B, by omega, by omega, fun dd H6 dd0 dd1 g6 B6 => ?_⟩
      obtain ⟨dd, rfl⟩ := Int.eq_ofNat_of_zero_le dd0
      have hdd : dd < many := by omega
      have hwd : ws[dd]? = some (ws[dd]'(by omega)) := List.getElem?_eq_getElem _
      generalize ws[dd]'(by omega) = root at hwd
      have wm : root ∈ ws.take many := List.mem_of_getElem? (i := dd) (by rw [List.getElem?_take_of_lt hdd]; exact hwd)
      have P6 := P5.gl g6.gl B6
      obtain ⟨bx5, ebx5⟩ := P5.B.lst
      refine ⟨wl, _, dd, .str root, rfl, rfl, SqL.of P6.hw, atI_nat (by rw [List.getElem?_map, hwd]; rfl), by show 4 ≤ sizeLine; decide, fun q1 nq1 => ?_⟩
      have sm : Same H6 (upd H6 q1 (.tup [.ref kt, .ref ft, .ref ut, .str root])) := same_new nq1
      have S6 : SchAt H6 kt ft ut krs frs urs := ⟨g6 _ _ nkb eK5, g6 _ _ nftb eF5, g6 _ _ nub eU5, fun k m => (hk5 k m).gr (Oth.lst ebx5) g6, fun f m => (hf5 f m).gr (Oth.lst ebx5) g6, fun u m => g6 _ _ ((Oth.lst ebx5).net (hu5 u m).1) (hu5 u m).1⟩
      have ebs : bsOf krs frs urs = l := by
       unfold bsOf
       rw [knm, hnm, unm, ← hl]
      have tx : ∀ z ∈ l, PyData.strOk z = true := fun z m => by
       rw [← hl] at m
       rcases List.mem_append.mp m with m | m
       ·rcases List.mem_cons.mp m with rfl | m
        ·decide +kernel
        ·rw [List.mem_singleton.mp m]
         decide +kernel
       ·rcases List.mem_append.mp m with m | m
        ·exact (hwok z (List.mem_of_mem_take m)).1.tx
        ·rcases List.mem_append.mp m with m | m
         ·exact (hwok z (fsub z m)).1.tx
         ·exact (hwok z (usub z m)).1.tx
      refine q q1 kt ft ut krs frs urs root _ upd_same (S6.same sm) ⟨?_, ?_, ?_, ?_, ?_, ?_, ?_, ?_, ?_, ?_, ?_, ?_, ?_, ?_, ?_⟩ ⟨nm, by omega, fun k m f mf => ((kpr k m).2.2.2.2.2.1 f mf).1⟩ (by
       have e := congrArg List.length knm
       rw [List.length_map, lt] at e
       omega) ((g5.trans g6).trans (Gr.new nq1)) (B6.new nq1)
      ·have e := congrArg List.length knm
       rw [List.length_map, lt] at e
       omega
      ·have e := congrArg List.length knm
       rw [List.length_map, lt] at e
       omega
      ·have e := congrArg List.length hnm
       rw [List.length_map, lf] at e
       omega
      ·have e := congrArg List.length unm
       rw [List.length_map, lu] at e
       omega
      ·rw [ebs, ← hl]
       refine List.nodup_append.mpr ⟨by decide +kernel, ?_, fun a ha c hc e => ?_⟩
       ·rw [← hfcs, ← huns]
        exact hwnd.sublist (parts_sub ws many nf nu hnf)
       ·subst e
        have am : a ∈ ws := by
         rcases List.mem_append.mp hc with m | m
         ·exact List.mem_of_mem_take m
         ·rcases List.mem_append.mp m with m | m
          ·exact fsub a m
          ·exact usub a m
        rcases List.mem_cons.mp ha with rfl | ha
        ·exact (hwok _ am).2.2 rfl
        ·rw [List.mem_singleton.mp ha] at am
         exact (hwok _ am).2.1 rfl
      ·intro k m
       have : k.nm ∈ ws.take many := by rw [← knm]; exact List.mem_map.mpr ⟨k, m, rfl⟩
       exact (hwok _ (List.mem_of_mem_take this)).1
      ·intro k m
       exact (hwok _ (fsub _ (by rw [← hnm]; exact List.mem_map.mpr ⟨k, m, rfl⟩))).1
      ·intro k m
       exact (hwok _ (usub _ (by rw [← unm]; exact List.mem_map.mpr ⟨k, m, rfl⟩))).1
      ·intro k m
       obtain ⟨h1, h2, _⟩ := kpr k m
       refine ⟨h1, fun z mz => fnm z (h2 z mz), ?_⟩
       have := len_le_of_sub h1 h2
       omega
      ·intro k m
       obtain ⟨_, _, h1, h2, h3, h4, _⟩ := kpr k m
       rw [ebs]
       exact ⟨h1, h2, h3, fun f mf => hnok f.1 (h4 f mf).1 |>.1, fun f mf => (h4 f mf).2, tx⟩
      ·intro f m
       obtain ⟨_, h1, h2, h3, h4⟩ := hfp f m
       rw [ebs]
       refine ⟨h1, h2, h3, fun x mx => ?_, fun x mx => ?_, tx⟩
       ·obtain ⟨j, hj, _⟩ := h4 x mx
        exact (hnok _ (List.mem_of_getElem? hj)).1
       ·obtain ⟨j, _, hj⟩ := h4 x mx
        exact (P5.csh _ (List.mem_of_getElem? hj)).2
      ·intro f m
       obtain ⟨j, hj, ej⟩ := List.getElem_of_mem (show f.nm ∈ fcs by rw [← hnm]; exact List.mem_map.mpr ⟨f, m, rfl⟩)
       exact hcov j f.nm (by rw [← ej]; exact List.getElem?_eq_getElem hj) (Nat.mod_lt _ (by omega))
      ·intro f mf k mk hin x mx
       obtain ⟨_, _, _, _, _, _, h7⟩ := kpr k mk
       exact ⟨x, h7 f mf hin x mx, rfl, rfl⟩
      ·intro u m
       obtain ⟨_, h1, h2, h3, h4⟩ := hu5 u m
       exact ⟨h1, h2, h3, fun z mz => by rw [knm]; exact h4 z mz⟩
      ·rw [knm]
       exact wm
end
end NW
namespace NW
open PySem PySem.Spec PyProof.Rows L2
open TL (tl)
open StX (pa_star)
abbrev s_Schema_bases : Stmt := inClass (topS 56) 3
abbrev N_Schema_bases : List Str := ["self"]
theorem sc_Schema_bases : FnScope N_Schema_bases ["self"] (defScope s_Schema_bases) := ⟨rfl, rfl, rfl, by decide +kernel, rfl, by decide +kernel, by decide +kernel⟩
abbrev s_Schema_contains : Stmt := inClass (topS 56) 2
abbrev N_Schema_contains : List Str := ["self", "base"]
theorem sc_Schema_contains : FnScope N_Schema_contains ["self", "base"] (defScope s_Schema_contains) := ⟨rfl, rfl, rfl, by decide +kernel, rfl, by decide +kernel, by decide +kernel⟩
abbrev s_Schema_kinds : Stmt := inClass (topS 56) 4
abbrev N_Schema_kinds : List Str := ["self"]
theorem sc_Schema_kinds : FnScope N_Schema_kinds ["self"] (defScope s_Schema_kinds) := ⟨rfl, rfl, rfl, by decide +kernel, rfl, by decide +kernel, by decide +kernel⟩
theorem map_eq_of_rel {α : Type} {f : α → Str} {ks rs : List α} (hl : rs.length = ks.length) (h : ∀ (j : Nat) (a b : α), ks[j]? = some a → rs[j]? = some b → f b = f a) : rs.map f = ks.map f := by
 have := rel_names (i := ks.length) hl (Nat.le_refl _) h
 rw [List.take_length] at this
 exact this
theorem BuiltAt.names {C : Addr} {H : Hp} {x : Addr} {ks : List KRow} {fs : List FRow} {us : List URow} {root : Str} (_ : BuiltAt C H x ks fs us root) : ∀ ks' fs' us', RelK ks ks' → RelF fs fs' → RelU us us' →
  (ks'.map (·.nm) = ks.map (·.nm) ∧ fs'.map (·.nm) = fs.map (·.nm) ∧ us'.map (·.nm) = us.map (·.nm)) := fun ks' fs' us' rk rf ru =>
 ⟨map_eq_of_rel (f := fun k : KRow => k.nm) rk.1 fun j a b ea eb => (rk.2 j a b ea eb).1, map_eq_of_rel (f := fun k : FRow => k.nm) rf.1 fun j a b ea eb => (rf.2 j a b ea eb).1, map_eq_of_rel (f := fun k : URow => k.nm) ru.1 fun j a b ea eb => (ru.2 j a b ea eb).1⟩
theorem BuiltAt.gr {C b : Addr} {H H' : Hp} {x : Addr} {ks : List KRow} {fs : List FRow} {us : List URow} {root : Str} (hb : Oth H b) (g : Gr b H H') (n : x ≠ b) (h : BuiltAt C H x ks fs us root) : BuiltAt C H' x ks fs us root := by
 obtain ⟨dx, kt, ft, ut, ks', fs', us', hx, S, rk, rf, ru⟩ := h
 exact ⟨dx, kt, ft, ut, ks', fs', us', g _ _ n hx, S.gr hb g, rk, rf, ru⟩
theorem BuiltAt.same {C : Addr} {H H' : Hp} {x : Addr} {ks : List KRow} {fs : List FRow} {us : List URow} {root : Str} (g : Same H H') (h : BuiltAt C H x ks fs us root) : BuiltAt C H' x ks fs us root := by
 obtain ⟨dx, kt, ft, ut, ks', fs', us', hx, S, rk, rf, ru⟩ := h
 exact ⟨dx, kt, ft, ut, ks', fs', us', g _ _ hx, S.same g, rk, rf, ru⟩
section
variable {P : Program} {w : World} {K : PySem.W.Frag} {mg : Str → Option Value} {base : Heap}

structure Mt (K : PySem.W.Frag) (C : Addr) (x q : Str) (st : Stmt) (f : Addr) (fd : FuncData) (ps : List Str) : Prop where
 F : Fun K x q st f fd
 b : Binds K fd ps []
 m : Meth K C x f
theorem TyX.same {H H' : Hp} {x : V} {t : Value} (s : Same H H') (h : TyX K H x t) : TyX K H' x t := by
 cases h with
 | base h =>
  cases h with
  | non => exact .base .non
  | bl b => exact .base (.bl b)
  | int i => exact .base (.int i)
  | str z => exact .base (.str z)
  | flt z => exact .base (.flt z)
  | lst e => exact .base (.lst (s _ _ e))
  | frz e => exact .base (.frz (s _ _ e))
  | tup e => exact .base (.tup (s _ _ e))
  | dK e => exact .base (.dK (s _ _ e))
  | dT e => exact .base (.dT (s _ _ e))
  | ins e cl ha hn htk hm => exact .base (.ins (s _ _ e) cl ha hn htk hm)
 | byt b => exact .byt b
 | set e => exact .set (s _ _ e)
 | kList e c => exact .kList e c
 | kTuple e c => exact .kTuple e c
 | kDict e c => exact .kDict e c
 | fTuple e => exact .fTuple (s _ _ e)
 | fDict e => exact .fDict (s _ _ e)
def spBases (C : Addr) : Sp := fun vs H Q _ => ∃ (x : Addr) (ks : List KRow) (fs : List FRow) (us : List URow) (root : Str), vs = [.ref x] ∧ BuiltAt C H x ks fs us root ∧ ks.length ≤ 6 ∧ fs.length ≤ 3 ∧ us.length ≤ 3 ∧
 ∀ p H', Same H H' → H p = none → H' p = some (.lst ((bsOf ks fs us).map V.str)) → Q (.ref p) H'
theorem ok_bases {f C : Addr} {fd : FuncData} (F : Fun K "bases" "Schema.bases" s_Schema_bases f fd) (L : ClT K C) (Cs : Cst K mg) : FnOk P w K mg base CX0 1 f fd ["self"] (spBases C) := by
 obtain ⟨la, g_L, hL⟩ := Cs.LEAVES
 refine F.ok sc_Schema_bases (fun vs H Q E h => ?_) (fun cdv A outer s H vs Q E hr h => ?_)
 ·obtain ⟨x, ks, fs, us, root, rfl, _⟩ := h
  rfl
 ·obtain ⟨x, ks, fs, us, root, rfl, Bt, k6, f3, u3, q⟩ := h
  have hnm := Bt.names
  obtain ⟨dx, kt, ft, ut, ks', fs', us', hx, S, rk, rf, ru⟩ := Bt
  obtain ⟨e1, e2, e3⟩ := hnm ks' fs' us' rk rf ru
  refine ⟨_, (pss_one (ps_ret (pe_lst (pa_star (pe_glob (v := .ref la) (by rfl) g_L rfl) (pa_starD rfl (pe_fld (pv 0) rfl) (pa_starD rfl (pe_fld (pv 0) rfl) (pa_starD rfl (pe_fld (pv 0) rfl) pa_nil))))))), ?_⟩
  refine ⟨la, _, rfl, .inl (hL H), .ref x, rfl, x, C, dx, _, _, rfl, hx, L.cl, L.nk, lkk .., kt, kkv ks', rfl, .inl S.kd, .ref x, rfl, x, C, dx, _, _, rfl, hx, L.cl, L.nf, lkf .., ft, fkvs fs', rfl, .inl S.fd, .ref x, rfl, x, C, dx, _, _, rfl, hx, L.cl, L.nu, lku .., ut, ukv us', rfl, .inl S.ud, ?_, fun p np => ?_⟩
  ·show ([V.str "number", V.str "text"] ++ (dkeys (kkv ks') ++ (dkeys (fkvs fs') ++ (dkeys (ukv us') ++ [])))).length ≤ sizeLine
   have l1 := rk.1
   have l2 := rf.1
   have l3 := ru.1
   rw [List.length_append, List.length_append, List.length_append, List.length_append, dkeys_len, dkeys_len, dkeys_len, show (kkv ks').length = ks'.length from List.length_map .., show (fkvs fs').length = fs'.length from List.length_map .., show (ukv us').length = us'.length from List.length_map ..]
   exact Nat.le_trans (show 2 + (ks'.length + (fs'.length + (us'.length + 0))) ≤ 1000 by omega) (by decide)
  ·have el : ([V.str "number", V.str "text"] ++ (dkeys (kkv ks') ++ (dkeys (fkvs fs') ++ (dkeys (ukv us') ++ [])))) = (bsOf ks fs us).map V.str := by
    rw [dkeys_k, dkeys_f, dkeys_u]
    unfold bsOf
    rw [List.append_nil, List.map_append, List.map_append, List.map_append, e1, e2, e3]
    rfl
   refine q p _ (same_new np) np ?_
   show (upd H p (.lst ([V.str "number", V.str "text"] ++ (dkeys (kkv ks') ++ (dkeys (fkvs fs') ++ (dkeys (ukv us') ++ [])))))) p = _
   rw [el]
   exact upd_same
def spContains (K : PySem.W.Frag) (C : Addr) : Sp := fun vs H Q _ => ∃ (x : Addr) (y : V) (ks : List KRow) (fs : List FRow) (us : List URow) (root : Str), vs = [.ref x, y] ∧ BuiltAt C H x ks fs us root ∧ ks.length ≤ 6 ∧ fs.length ≤ 3 ∧ us.length ≤ 3 ∧
 ((∃ z, y = .str z ∧ ∀ H', Same H H' → Q (.bl (decide (z ∈ bsOf ks fs us))) H') ∨ (∃ t, TyX K H y t ∧ PySem.W.kitOne K t (.type "str") = some false ∧ ∀ H', Same H H' → Q (.bl false) H'))
theorem ok_contains {f f1 f2 C : Addr} {fd fd1 fd2 : FuncData} (F : Fun K "__contains__" "Schema.__contains__" s_Schema_contains f fd) (M_bases : Mt K C "bases" "Schema.bases" s_Schema_bases f1 fd1 ["self"]) (D_is_key : Df K mg "is_key" s_is_key f2 fd2 ["name", "table"]) (T : Nms mg) (L : ClT K C)
  (G_bases : FnOk P w K mg base CX0 1 f1 fd1 ["self"] (spBases C)) (G_is_key : FnOk P w K mg base CX0 1 f2 fd2 ["name", "table"] (spIsKey K)) : FnOk P w K mg base CX0 2 f fd ["self", "base"] (spContains K C) := by
 refine F.ok sc_Schema_contains (fun vs H Q E h => ?_) (fun cdv A outer s H vs Q E hr h => ?_)
 ·obtain ⟨x, y, ks, fs, us, root, rfl, _⟩ := h
  rfl
 ·obtain ⟨x, y, ks, fs, us, root, rfl, Bt, k6, f3, u3, q⟩ := h
  have Bt' := Bt
  obtain ⟨dx, kt, ft, ut, ks', fs', us', hx, S, rk, rf, ru⟩ := Bt'
  refine ⟨_, (pss_one (ps_ret (pe_call G_is_key (hr.mono (by decide)) (by rfl) D_is_key.g D_is_key.F.kp D_is_key.b .nil pass0 (pa_cons (pv 1) (pa_cons (pe_meth0 (pv 0) L.cl M_bases.m G_bases (hr.mono (by decide)) M_bases.b .nil pass0) pa_nil))))), ?_⟩
  refine ⟨y, rfl, .ref x, rfl, x, dx, _, rfl, hx, lkn _ _ _ _ (by decide +kernel) (by decide +kernel) (by decide +kernel) (by decide +kernel), x, ks, fs, us, root, rfl, Bt, k6, f3, u3, fun p H1 s1 np e1 => ?_⟩
  rcases q with ⟨z, rfl, q⟩ | ⟨t, ht, hk, q⟩
  ·exact ⟨.str z, p, rfl, .inl ⟨z, rfl, .inl ⟨_, .inl (SqL.of e1), q _ s1⟩⟩⟩
  ·exact ⟨y, p, rfl, .inr ⟨t, NW.TyX.same s1 ht, hk, q _ s1⟩⟩

def sp_kinds (C : Addr) : Sp := fun vs H Q _ => ∃ (x : Addr) (ks : List KRow) (fs : List FRow) (us : List URow) (root : Str), vs = [.ref x] ∧ BuiltAt C H x ks fs us root ∧ ks.length ≤ 6 ∧ fs.length ≤ 3 ∧ us.length ≤ 3 ∧
 ∀ (ys : List Str) (p : Addr) H', ys.Perm (ks.map (·.nm)) → sortedS ys = true → Same H H' → H p = none → H' p = some (.lst (ys.map V.str)) → Q (.ref p) H'
theorem ok_kinds {f C : Addr} {fd : FuncData} (F : Fun K "kinds" "Schema.kinds" s_Schema_kinds f fd) (T : Nms mg) (L : ClT K C) : FnOk P w K mg base CX0 1 f fd ["self"] (sp_kinds C) := by
 refine F.ok sc_Schema_kinds (fun vs H Q E h => ?_) (fun cdv A outer s H vs Q E hr h => ?_)
 ·obtain ⟨x, ks, fs, us, root, rfl, _⟩ := h
  rfl
 ·obtain ⟨x, ks, fs, us, root, rfl, Bt, k6, f3, u3, q⟩ := h
  have hnm := Bt.names
  obtain ⟨dx, kt, ft, ut, ks', fs', us', hx, S, rk, rf, ru⟩ := Bt
  obtain ⟨e1, e2, e3⟩ := hnm ks' fs' us' rk rf ru
  refine ⟨_, (pss_one (ps_ret (pe_callB (call_sortedD rfl) (by rfl) T.n_sorted (by decide +kernel) (pa_cons (pe_fld (pv 0) rfl) pa_nil)))), ?_⟩
  refine ⟨.ref x, rfl, x, C, dx, _, _, rfl, hx, L.cl, L.nk, lkk .., kt, kkv ks', _, rfl, .inl S.kd, kkv_keys _, ?_, fun ys p pm so np => ?_⟩
  ·have := rk.1
   rw [List.length_map]
   omega
  ·refine q ys p _ ?_ so (same_new np) np upd_same
   rw [← e1]
   exact pm

end
end NW
namespace NW
open PySem PySem.Spec PyProof.Rows L2
open TL (tl)
open StX (pa_star)
abbrev s_Lsame : Stmt := topS 72
abbrev N_Lsame : List Str := ["_law_one", "_law_other", "_law_key", "_law_k"]
theorem sc_Lsame : FnScope N_Lsame ["_law_one", "_law_other"] (defScope s_Lsame) := ⟨rfl, rfl, rfl, by decide +kernel, rfl, by decide +kernel, by decide +kernel⟩
theorem ix_seqK {X : Cx} (K : PySem.W.Frag) (h : X.K = K := by rfl) : IxR X (rIx K) := h ▸ ix_seq
def Sc (x : V) : Prop := x = .non ∨ (∃ b, x = .bl b) ∨ (∃ i, x = .int i) ∨ ∃ z, x = .str z
def SameL : Nat → List Addr → Hp → V → V → Prop
 | 0, _, _, x, y => x = y ∧ Sc y
 | n + 1, L, H, x, y => (x = y ∧ Sc y) ∨
  (∃ a b xs ys, x = .ref a ∧ y = .ref b ∧ ((H a = some (.lst xs) ∧ H b = some (.lst ys)) ∨ (H a = some (.tup xs) ∧ H b = some (.tup ys))) ∧ xs.length = ys.length ∧ ys.length ≤ 1000 ∧ ∀ (i : Nat) u v, xs[i]? = some u → ys[i]? = some v → SameL n L H u v) ∨
  (∃ a b kvs lvs, x = .ref a ∧ y = .ref b ∧ a ∉ L ∧ b ∉ L ∧ H a = some (.dK kvs) ∧ H b = some (.dK lvs) ∧ kvs.length = lvs.length ∧ lvs.length ≤ 1000 ∧ (lvs.map (·.1)).Nodup ∧ ∀ k v, (k, v) ∈ lvs → ∃ u, valV kvs k = some u ∧ SameL n (b :: L) H u v)
def StL (L : List Addr) (H H' : Hp) : Prop := (∀ a xs, H a = some (.lst xs) → H' a = some (.lst xs)) ∧ (∀ a xs, H a = some (.tup xs) → H' a = some (.tup xs)) ∧ ∀ a kvs, a ∉ L → H a = some (.dK kvs) → H' a = some (.dK kvs)
theorem Same.stl {L : List Addr} {H H' : Hp} (s : Same H H') : StL L H H' := ⟨fun a _ e => s a _ e, fun a _ e => s a _ e, fun a _ _ e => s a _ e⟩
theorem StL.cons {L : List Addr} {H H' : Hp} {b : Addr} (s : StL L H H') : StL (b :: L) H H' := ⟨s.1, s.2.1, fun a kvs n e => s.2.2 a kvs (fun m => n (List.mem_cons_of_mem _ m)) e⟩
theorem StL.lock {L : List Addr} {H : Hp} {b : Addr} {kvs : List (Key × V)} {o : HO} (e : H b = some (.dK kvs)) : StL (b :: L) H (upd H b o) :=
 ⟨fun a xs h => by rw [upd_ne (ne_of h e (by intro z; cases z))]; exact h, fun a xs h => by rw [upd_ne (ne_of h e (by intro z; cases z))]; exact h, fun a lvs n h => by rw [upd_ne (fun z => n (List.mem_cons.mpr (.inl z)))]; exact h⟩
theorem StL.trans {L : List Addr} {H1 H2 H3 : Hp} (x : StL L H1 H2) (y : StL L H2 H3) : StL L H1 H3 := ⟨fun a xs e => y.1 a xs (x.1 a xs e), fun a xs e => y.2.1 a xs (x.2.1 a xs e), fun a kvs n e => y.2.2 a kvs n (x.2.2 a kvs n e)⟩
theorem SameL.st : ∀ {n : Nat} {L : List Addr} {H H' : Hp} {x y : V}, StL L H H' → SameL n L H x y → SameL n L H' x y := by
 intro n
 induction n with
 | zero => intro L H H' x y _ h; exact h
 | succ n ih =>
  rintro L H H' x y s (h | ⟨a, b, xs, ys, e1, e2, h, hl, h1, h2⟩ | ⟨a, b, kvs, lvs, e1, e2, na, nb, h1, h2, hl, h3, nd, h4⟩)
  ·exact .inl h
  ·refine .inr (.inl ⟨a, b, xs, ys, e1, e2, ?_, hl, h1, fun i u v eu ev => ih s (h2 i u v eu ev)⟩)
   rcases h with ⟨p, q⟩ | ⟨p, q⟩
   ·exact .inl ⟨s.1 _ _ p, s.1 _ _ q⟩
   ·exact .inr ⟨s.2.1 _ _ p, s.2.1 _ _ q⟩
  ·refine .inr (.inr ⟨a, b, kvs, lvs, e1, e2, na, nb, s.2.2 _ _ na h1, s.2.2 _ _ nb h2, hl, h3, nd, fun k v m => ?_⟩)
   obtain ⟨u, eu, hu⟩ := h4 k v m
   exact ⟨u, eu, ih s.cons hu⟩
theorem SameL.up : ∀ {n : Nat} {L : List Addr} {H : Hp} {x y : V}, SameL n L H x y → SameL (n + 1) L H x y := by
 intro n
 induction n with
 | zero => intro L H x y h; exact .inl h
 | succ n ih =>
  rintro L H x y (h | ⟨a, b, xs, ys, e1, e2, h, hl, h1, h2⟩ | ⟨a, b, kvs, lvs, e1, e2, na, nb, h1, h2, hl, h3, nd, h4⟩)
  ·exact .inl h
  ·exact .inr (.inl ⟨a, b, xs, ys, e1, e2, h, hl, h1, fun i u v eu ev => ih (h2 i u v eu ev)⟩)
  ·refine .inr (.inr ⟨a, b, kvs, lvs, e1, e2, na, nb, h1, h2, hl, h3, nd, fun k v m => ?_⟩)
   obtain ⟨u, eu, hu⟩ := h4 k v m
   exact ⟨u, eu, ih hu⟩
theorem SameL.upTo {n m : Nat} {L : List Addr} {H : Hp} {x y : V} (h : SameL n L H x y) (le : n ≤ m) : SameL m L H x y := by
 induction le with
 | refl => exact h
 | step _ ih => exact ih.up
def SameV (n : Nat) (H : Hp) (x y : V) : Prop := SameL n [] H x y
theorem SameV.same {H H' : Hp} (s : Same H H') {n : Nat} {x y : V} (h : SameV n H x y) : SameV n H' x y := SameL.st (Same.stl s) h
theorem SameV.up {H : Hp} {n : Nat} {x y : V} (h : SameV n H x y) : SameV (n + 1) H x y := SameL.up h
section
variable {P : Program} {w : World} {K : PySem.W.Frag} {mg : Str → Option Value} {base : Heap}

def spLsameL (n : Nat) : Sp := fun vs H Q _ => ∃ x y L, vs = [x, y] ∧ SameL n L H x y ∧ ∀ H', Same H H' → Q (.bl true) H'
def spLsame (n : Nat) : Sp := fun vs H Q _ => ∃ x y, vs = [x, y] ∧ SameV n H x y ∧ ∀ H', Same H H' → Q (.bl true) H'
theorem ok_LsameL {f : Addr} {fd : FuncData} (D_Lsame : Df K mg "_law_same" s_Lsame f fd ["_law_one", "_law_other"]) (T : Nms mg) : ∀ n : Nat, FnOk P w K mg base CX0 (n + 1) f fd ["_law_one", "_law_other"] (spLsameL n) := by
 intro n
 induction n with
 | zero =>
  refine D_Lsame.F.ok sc_Lsame (fun vs H Q E h => ?_) (fun cdv A outer s H vs Q E hr h => ?_)
  ·obtain ⟨x, y, L, rfl, _⟩ := h
   rfl
  ·obtain ⟨x, y, L, rfl, h, q⟩ := h
   refine ⟨_, (pss_cons (ps_if (pt_val (pe_callB call_isi (by rfl) T.n_isinstance (by decide +kernel) (pa_cons (pv 1) (pa_cons (pe_bltn (v := .ty "dict") (by rfl) T.n_dict (by decide +kernel) rfl) pa_nil)))) (pss_cons ps_never (pss_cons ps_never (pss_one ps_never))) pss_nil)
   (pss_cons (ps_if (PW.pt (pw_or (pt_val (pe_callB call_isi (by rfl) T.n_isinstance (by decide +kernel) (pa_cons (pv 1) (pa_cons (pe_bltn (v := .ty "list") (by rfl) T.n_list (by decide +kernel) rfl) pa_nil)))) (pw_or1 (pt_val (pe_callB call_isi (by rfl) T.n_isinstance (by decide +kernel) (pa_cons (pv 1) (pa_cons (pe_bltn (v := .ty "tuple") (by rfl) T.n_tuple (by decide +kernel) rfl) pa_nil))))))) (pss_cons ps_never (pss_cons ps_never (pss_one ps_never))) pss_nil)
   (pss_cons (ps_if (pt_cmpR op_isN (pv 1) pe_non (nomark _))
    (pss_one (ps_ret (pe_cmpR op_isN (pv 0) pe_non (nomark _))))
    pss_nil)
   (pss_cons (ps_if (pt_val (pe_callB call_isi (by rfl) T.n_isinstance (by decide +kernel) (pa_cons (pv 1) (pa_cons (pe_bltn (v := .ty "str") (by rfl) T.n_str (by decide +kernel) rfl) pa_nil))))
    (pss_one (ps_ret (pe_and (pe_callB call_isi (by rfl) T.n_isinstance (by decide +kernel) (pa_cons (pv 0) (pa_cons (pe_bltn (v := .ty "str") (by rfl) T.n_str (by decide +kernel) rfl) pa_nil))) (pe_one (pe_cmpR op_eq (pv 0) (pv 1) (nomark _))))))
    pss_nil)
   (pss_one (ps_ret (pe_and (pe_callB call_isi (by rfl) T.n_isinstance (by decide +kernel) (pa_cons (pv 0) (pa_cons (pe_bltn (v := .ty "int") (by rfl) T.n_int (by decide +kernel) rfl) pa_nil))) (pe_and (pe_cmpR op_eq (pe_callB call_isi (by rfl) T.n_isinstance (by decide +kernel) (pa_cons (pv 0) (pa_cons (pe_bltn (v := .ty "bool") (by rfl) T.n_bool (by decide +kernel) rfl) pa_nil))) (pe_callB call_isi (by rfl) T.n_isinstance (by decide +kernel) (pa_cons (pv 1) (pa_cons (pe_bltn (v := .ty "bool") (by rfl) T.n_bool (by decide +kernel) rfl) pa_nil))) (nomark _)) (pe_one (pe_cmpR op_eq (pv 0) (pv 1) (nomark _))))))))))), ?_⟩
   obtain ⟨rfl, sc⟩ := h
   rcases sc with rfl | ⟨bb, rfl⟩ | ⟨ii, rfl⟩ | ⟨zz, rfl⟩
   ·refine ⟨.non, rfl, _, _, _, _, false, rfl, .ty "dict", .base .non, kit_ty (by decide +kernel), false, rfl, iteF ?_⟩
    refine ⟨.non, rfl, _, _, _, _, false, rfl, .ty "list", .base .non, kit_ty (by decide +kernel), false, rfl, iteF ⟨.non, rfl, _, _, _, _, false, rfl, .ty "tuple", .base .non, kit_ty (by decide +kernel), false, rfl, iteF ?_⟩⟩
    refine ⟨.non, rfl, rfl, true, blT rfl, iteT ⟨.non, rfl, rfl, ?_⟩⟩
    rw [decide_eq_true rfl]
    exact q _ (Same.refl _)
   ·refine ⟨.bl bb, rfl, _, _, _, _, false, rfl, .ty "dict", .base (.bl bb), kit_ty (by decide +kernel), false, rfl, iteF ?_⟩
    refine ⟨.bl bb, rfl, _, _, _, _, false, rfl, .ty "list", .base (.bl bb), kit_ty (by decide +kernel), false, rfl, iteF ⟨.bl bb, rfl, _, _, _, _, false, rfl, .ty "tuple", .base (.bl bb), kit_ty (by decide +kernel), false, rfl, iteF ?_⟩⟩
    refine ⟨.bl bb, rfl, rfl, false, blF (by intro z; cases z), iteF ?_⟩
    refine ⟨.bl bb, rfl, _, _, _, _, false, rfl, .ty "str", .base (.bl bb), kit_ty (by decide +kernel), false, rfl, iteF ⟨.bl bb, rfl, _, _, _, _, true, rfl, .ty "int", .base (.bl bb), kit_ty (by decide +kernel), true, rfl, iteT ⟨.bl bb, rfl, _, _, _, _, true, rfl, .ty "bool", .base (.bl bb), kit_ty (by decide +kernel), .bl bb, rfl, _, _, _, _, true, rfl, .ty "bool", .base (.bl bb), kit_ty (by decide +kernel), rfl, true, blT rfl, iteT ⟨.bl bb, rfl, .bl bb, rfl, rfl, ?_⟩⟩⟩⟩
    rw [decide_eq_true rfl]
    exact q _ (Same.refl _)
   ·refine ⟨.int ii, rfl, _, _, _, _, false, rfl, .ty "dict", .base (.int ii), kit_ty (by decide +kernel), false, rfl, iteF ?_⟩
    refine ⟨.int ii, rfl, _, _, _, _, false, rfl, .ty "list", .base (.int ii), kit_ty (by decide +kernel), false, rfl, iteF ⟨.int ii, rfl, _, _, _, _, false, rfl, .ty "tuple", .base (.int ii), kit_ty (by decide +kernel), false, rfl, iteF ?_⟩⟩
    refine ⟨.int ii, rfl, rfl, false, blF (by intro z; cases z), iteF ?_⟩
    refine ⟨.int ii, rfl, _, _, _, _, false, rfl, .ty "str", .base (.int ii), kit_ty (by decide +kernel), false, rfl, iteF ⟨.int ii, rfl, _, _, _, _, true, rfl, .ty "int", .base (.int ii), kit_ty (by decide +kernel), true, rfl, iteT ⟨.int ii, rfl, _, _, _, _, false, rfl, .ty "bool", .base (.int ii), kit_ty (by decide +kernel), .int ii, rfl, _, _, _, _, false, rfl, .ty "bool", .base (.int ii), kit_ty (by decide +kernel), rfl, true, blT rfl, iteT ⟨.int ii, rfl, .int ii, rfl, rfl, ?_⟩⟩⟩⟩
    rw [decide_eq_true rfl]
    exact q _ (Same.refl _)
   ·refine ⟨.str zz, rfl, _, _, _, _, false, rfl, .ty "dict", .base (.str zz), kit_ty (by decide +kernel), false, rfl, iteF ?_⟩
    refine ⟨.str zz, rfl, _, _, _, _, false, rfl, .ty "list", .base (.str zz), kit_ty (by decide +kernel), false, rfl, iteF ⟨.str zz, rfl, _, _, _, _, false, rfl, .ty "tuple", .base (.str zz), kit_ty (by decide +kernel), false, rfl, iteF ?_⟩⟩
    refine ⟨.str zz, rfl, rfl, false, blF (by intro z; cases z), iteF ?_⟩
    refine ⟨.str zz, rfl, _, _, _, _, true, rfl, .ty "str", .base (.str zz), kit_ty (by decide +kernel), true, rfl, iteT ⟨.str zz, rfl, _, _, _, _, true, rfl, .ty "str", .base (.str zz), kit_ty (by decide +kernel), true, rfl, iteT ⟨.str zz, rfl, .str zz, rfl, rfl, ?_⟩⟩⟩
    rw [decide_eq_true rfl]
    exact q _ (Same.refl _)
 | succ n ih =>
  have G_Lsame := ih
  refine D_Lsame.F.ok sc_Lsame (fun vs H Q E h => ?_) (fun cdv A outer s H vs Q E hr h => ?_)
  ·obtain ⟨x, y, L, rfl, _⟩ := h
   rfl
  ·obtain ⟨x, y, L, rfl, h, q⟩ := h
   have hu := hu_of hr
   refine ⟨_, (pss_cons (ps_if (pt_val (pe_callB call_isi (by rfl) T.n_isinstance (by decide +kernel) (pa_cons (pv 1) (pa_cons (pe_bltn (v := .ty "dict") (by rfl) T.n_dict (by decide +kernel) rfl) pa_nil))))
    (pss_cons (ps_if (PW.pt (pw_or (pt_not (pt_val (pe_callB call_isi (by rfl) T.n_isinstance (by decide +kernel) (pa_cons (pv 0) (pa_cons (pe_bltn (v := .ty "dict") (by rfl) T.n_dict (by decide +kernel) rfl) pa_nil))))) (pw_or1 (pt_cmpR op_ne (pe_callB call_lenR (by rfl) T.n_len (by decide +kernel) (pa_cons (pv 0) pa_nil)) (pe_callB call_lenR (by rfl) T.n_len (by decide +kernel) (pa_cons (pv 1) pa_nil)) (nomark _)))))
     (pss_one (ps_ret pe_bl))
     pss_nil)
    (pss_cons (ps_if (pt_not (pt_val (pe_callB (cr_all rfl) (by rfl) T.n_all (by decide +kernel) (pa_cons (pe_lock (pe_lc (own := [("_law_key", 2)]) (g := (gName 2)) (tt := tYes) rfl sc_Lsame.nd (pi_keys (pv 1)) (blkOk_by (own := [("_law_key", 2)]) (N := N_Lsame) (sc := defScope s_Lsame) (by decide +kernel)) (fun _ _ _ _ _ => (pg_name (i := 2) sc_Lsame.nd rfl (.inl rfl))) (fun _ _ _ _ _ => pts_nil) (fun _ _ _ _ _ => (pe_cmp (pc_din hu (pv 2) (pv 0)) rfl)))) pa_nil))))
     (pss_one (ps_ret pe_bl))
     pss_nil)
    (pss_one (ps_ret (pe_callB (cr_all rfl) (by rfl) T.n_all (by decide +kernel) (pa_cons (pe_lock (pe_lc (own := [("_law_key", 2)]) (g := (gName 2)) (tt := tYes) rfl sc_Lsame.nd (pi_keys (pv 1)) (blkOk_by (own := [("_law_key", 2)]) (N := N_Lsame) (sc := defScope s_Lsame) (by decide +kernel)) (fun _ _ _ _ _ => (pg_name (i := 2) sc_Lsame.nd rfl (.inl rfl))) (fun _ _ _ _ _ => pts_nil) (fun _ _ _ _ _ => (pe_call G_Lsame (hr.mono (by omega)) (by rfl) D_Lsame.g D_Lsame.F.kp D_Lsame.b .nil pass0 (pa_cons (pe_dget hu (pv 0) (pv 2) (fun _ _ => rfl)) (pa_cons (pe_dget hu (pv 1) (pv 2) (fun _ _ => rfl)) pa_nil)))))) pa_nil))))))
    pss_nil)
   (pss_cons (ps_if (PW.pt (pw_or (pt_val (pe_callB call_isi (by rfl) T.n_isinstance (by decide +kernel) (pa_cons (pv 1) (pa_cons (pe_bltn (v := .ty "list") (by rfl) T.n_list (by decide +kernel) rfl) pa_nil)))) (pw_or1 (pt_val (pe_callB call_isi (by rfl) T.n_isinstance (by decide +kernel) (pa_cons (pv 1) (pa_cons (pe_bltn (v := .ty "tuple") (by rfl) T.n_tuple (by decide +kernel) rfl) pa_nil)))))))
    (pss_cons (ps_if (pt_cmpR op_ne (pe_callB call_isi (by rfl) T.n_isinstance (by decide +kernel) (pa_cons (pv 0) (pa_cons (pe_bltn (v := .ty "list") (by rfl) T.n_list (by decide +kernel) rfl) pa_nil))) (pe_callB call_isi (by rfl) T.n_isinstance (by decide +kernel) (pa_cons (pv 1) (pa_cons (pe_bltn (v := .ty "list") (by rfl) T.n_list (by decide +kernel) rfl) pa_nil))) (nomark _))
     (pss_one (ps_ret pe_bl))
     pss_nil)
    (pss_cons (ps_if (PW.pt (pw_or (pt_cmpR op_ne (pe_callB call_isi (by rfl) T.n_isinstance (by decide +kernel) (pa_cons (pv 0) (pa_cons (pe_bltn (v := .ty "tuple") (by rfl) T.n_tuple (by decide +kernel) rfl) pa_nil))) (pe_callB call_isi (by rfl) T.n_isinstance (by decide +kernel) (pa_cons (pv 1) (pa_cons (pe_bltn (v := .ty "tuple") (by rfl) T.n_tuple (by decide +kernel) rfl) pa_nil))) (nomark _)) (pw_or1 (pt_cmpR op_ne (pe_callB call_len_seq (by rfl) T.n_len (by decide +kernel) (pa_cons (pv 0) pa_nil)) (pe_callB call_len_seq (by rfl) T.n_len (by decide +kernel) (pa_cons (pv 1) pa_nil)) (nomark _)))))
     (pss_one (ps_ret pe_bl))
     pss_nil)
    (pss_one (ps_ret (pe_callB (cr_all rfl) (by rfl) T.n_all (by decide +kernel) (pa_cons (pe_lc (own := [("_law_k", 3)]) (g := (gName 3)) (tt := tYes) rfl sc_Lsame.nd (pi_range1 (by rfl) T.n_range (pa_cons (pe_callB call_len_seq (by rfl) T.n_len (by decide +kernel) (pa_cons (pv 1) pa_nil)) pa_nil)) (blkOk_by (own := [("_law_k", 3)]) (N := N_Lsame) (sc := defScope s_Lsame) (by decide +kernel)) (fun _ _ _ _ _ => (pg_name (i := 3) sc_Lsame.nd rfl (.inl rfl))) (fun _ _ _ _ _ => pts_nil) (fun _ _ _ _ _ => (pe_call G_Lsame (hr.mono (by omega)) (by rfl) D_Lsame.g D_Lsame.F.kp D_Lsame.b .nil pass0 (pa_cons (pe_ix (ix_seqK K) (pv 0) (pv 3) (fun _ _ => rfl)) (pa_cons (pe_ix (ix_seqK K) (pv 1) (pv 3) (fun _ _ => rfl)) pa_nil))))) pa_nil))))))
    pss_nil)
   (pss_cons (ps_if (pt_cmpR op_isN (pv 1) pe_non (nomark _))
    (pss_one (ps_ret (pe_cmpR op_isN (pv 0) pe_non (nomark _))))
    pss_nil)
   (pss_cons (ps_if (pt_val (pe_callB call_isi (by rfl) T.n_isinstance (by decide +kernel) (pa_cons (pv 1) (pa_cons (pe_bltn (v := .ty "str") (by rfl) T.n_str (by decide +kernel) rfl) pa_nil))))
    (pss_one (ps_ret (pe_and (pe_callB call_isi (by rfl) T.n_isinstance (by decide +kernel) (pa_cons (pv 0) (pa_cons (pe_bltn (v := .ty "str") (by rfl) T.n_str (by decide +kernel) rfl) pa_nil))) (pe_one (pe_cmpR op_eq (pv 0) (pv 1) (nomark _))))))
    pss_nil)
   (pss_one (ps_ret (pe_and (pe_callB call_isi (by rfl) T.n_isinstance (by decide +kernel) (pa_cons (pv 0) (pa_cons (pe_bltn (v := .ty "int") (by rfl) T.n_int (by decide +kernel) rfl) pa_nil))) (pe_and (pe_cmpR op_eq (pe_callB call_isi (by rfl) T.n_isinstance (by decide +kernel) (pa_cons (pv 0) (pa_cons (pe_bltn (v := .ty "bool") (by rfl) T.n_bool (by decide +kernel) rfl) pa_nil))) (pe_callB call_isi (by rfl) T.n_isinstance (by decide +kernel) (pa_cons (pv 1) (pa_cons (pe_bltn (v := .ty "bool") (by rfl) T.n_bool (by decide +kernel) rfl) pa_nil))) (nomark _)) (pe_one (pe_cmpR op_eq (pv 0) (pv 1) (nomark _))))))))))), ?_⟩
   rcases h with h | ⟨a, b, xs, ys, rfl, rfl, h, hl, h1, h2⟩ | ⟨a, b, kvs, lvs, rfl, rfl, na, nb, ha, hb, hl, h1, hnd, h2⟩
   ·skip
    obtain ⟨rfl, sc⟩ := h
    rcases sc with rfl | ⟨bb, rfl⟩ | ⟨ii, rfl⟩ | ⟨zz, rfl⟩
    ·refine ⟨.non, rfl, _, _, _, _, false, rfl, .ty "dict", .base .non, kit_ty (by decide +kernel), false, rfl, iteF ?_⟩
     refine ⟨.non, rfl, _, _, _, _, false, rfl, .ty "list", .base .non, kit_ty (by decide +kernel), false, rfl, iteF ⟨.non, rfl, _, _, _, _, false, rfl, .ty "tuple", .base .non, kit_ty (by decide +kernel), false, rfl, iteF ?_⟩⟩
     refine ⟨.non, rfl, rfl, true, blT rfl, iteT ⟨.non, rfl, rfl, ?_⟩⟩
     rw [decide_eq_true rfl]
     exact q _ (Same.refl _)
    ·refine ⟨.bl bb, rfl, _, _, _, _, false, rfl, .ty "dict", .base (.bl bb), kit_ty (by decide +kernel), false, rfl, iteF ?_⟩
     refine ⟨.bl bb, rfl, _, _, _, _, false, rfl, .ty "list", .base (.bl bb), kit_ty (by decide +kernel), false, rfl, iteF ⟨.bl bb, rfl, _, _, _, _, false, rfl, .ty "tuple", .base (.bl bb), kit_ty (by decide +kernel), false, rfl, iteF ?_⟩⟩
     refine ⟨.bl bb, rfl, rfl, false, blF (by intro z; cases z), iteF ?_⟩
     refine ⟨.bl bb, rfl, _, _, _, _, false, rfl, .ty "str", .base (.bl bb), kit_ty (by decide +kernel), false, rfl, iteF ⟨.bl bb, rfl, _, _, _, _, true, rfl, .ty "int", .base (.bl bb), kit_ty (by decide +kernel), true, rfl, iteT ⟨.bl bb, rfl, _, _, _, _, true, rfl, .ty "bool", .base (.bl bb), kit_ty (by decide +kernel), .bl bb, rfl, _, _, _, _, true, rfl, .ty "bool", .base (.bl bb), kit_ty (by decide +kernel), rfl, true, blT rfl, iteT ⟨.bl bb, rfl, .bl bb, rfl, rfl, ?_⟩⟩⟩⟩
     rw [decide_eq_true rfl]
     exact q _ (Same.refl _)
    ·refine ⟨.int ii, rfl, _, _, _, _, false, rfl, .ty "dict", .base (.int ii), kit_ty (by decide +kernel), false, rfl, iteF ?_⟩
     refine ⟨.int ii, rfl, _, _, _, _, false, rfl, .ty "list", .base (.int ii), kit_ty (by decide +kernel), false, rfl, iteF ⟨.int ii, rfl, _, _, _, _, false, rfl, .ty "tuple", .base (.int ii), kit_ty (by decide +kernel), false, rfl, iteF ?_⟩⟩
     refine ⟨.int ii, rfl, rfl, false, blF (by intro z; cases z), iteF ?_⟩
     refine ⟨.int ii, rfl, _, _, _, _, false, rfl, .ty "str", .base (.int ii), kit_ty (by decide +kernel), false, rfl, iteF ⟨.int ii, rfl, _, _, _, _, true, rfl, .ty "int", .base (.int ii), kit_ty (by decide +kernel), true, rfl, iteT ⟨.int ii, rfl, _, _, _, _, false, rfl, .ty "bool", .base (.int ii), kit_ty (by decide +kernel), .int ii, rfl, _, _, _, _, false, rfl, .ty "bool", .base (.int ii), kit_ty (by decide +kernel), rfl, true, blT rfl, iteT ⟨.int ii, rfl, .int ii, rfl, rfl, ?_⟩⟩⟩⟩
     rw [decide_eq_true rfl]
     exact q _ (Same.refl _)
    ·refine ⟨.str zz, rfl, _, _, _, _, false, rfl, .ty "dict", .base (.str zz), kit_ty (by decide +kernel), false, rfl, iteF ?_⟩
     refine ⟨.str zz, rfl, _, _, _, _, false, rfl, .ty "list", .base (.str zz), kit_ty (by decide +kernel), false, rfl, iteF ⟨.str zz, rfl, _, _, _, _, false, rfl, .ty "tuple", .base (.str zz), kit_ty (by decide +kernel), false, rfl, iteF ?_⟩⟩
     refine ⟨.str zz, rfl, rfl, false, blF (by intro z; cases z), iteF ?_⟩
     refine ⟨.str zz, rfl, _, _, _, _, true, rfl, .ty "str", .base (.str zz), kit_ty (by decide +kernel), true, rfl, iteT ⟨.str zz, rfl, _, _, _, _, true, rfl, .ty "str", .base (.str zz), kit_ty (by decide +kernel), true, rfl, iteT ⟨.str zz, rfl, .str zz, rfl, rfl, ?_⟩⟩⟩
     rw [decide_eq_true rfl]
     exact q _ (Same.refl _)
   ·-- lists, tuples
    rcases h with ⟨ha, hb⟩ | ⟨ha, hb⟩
    ·refine ⟨.ref b, rfl, _, _, _, _, false, rfl, .ty "dict", .base (.lst hb), kit_ty (by decide +kernel), false, rfl, iteF ?_⟩
     refine ⟨.ref b, rfl, _, _, _, _, true, rfl, .ty "list", .base (.lst hb), kit_ty (by decide +kernel), true, rfl, iteT ?_⟩
     refine ⟨.ref a, rfl, _, _, _, _, true, rfl, .ty "list", .base (.lst ha), kit_ty (by decide +kernel), .ref b, rfl, _, _, _, _, true, rfl, .ty "list", .base (.lst hb), kit_ty (by decide +kernel), rfl, false, blNF rfl, iteF ?_⟩
     refine ⟨.ref a, rfl, _, _, _, _, false, rfl, .ty "tuple", .base (.lst ha), kit_ty (by decide +kernel), .ref b, rfl, _, _, _, _, false, rfl, .ty "tuple", .base (.lst hb), kit_ty (by decide +kernel), rfl, false, blNF rfl, iteF ⟨.ref a, rfl, a, xs, rfl, .inl (SqL.of ha), .ref b, rfl, b, ys, rfl, .inl (SqL.of hb), rfl, false, blNF (by rw [hl]), iteF ?_⟩⟩
     refine ⟨.ref b, rfl, b, ys, rfl, .inl (SqL.of hb), ys.length, rfl, by omega, by omega, fun Da nD => ?_⟩
     refine lc_all (walk_range (lo := 0) (n := ys.length)) (fun i x => x = .int (0 + (i : Int))) (fun i H x H' hi y => y) (fun _ _ => trivial) nD h1 (fun _ => rfl) ?_ ?_
     ·rintro i x H2 Q2 hi rfl sm k
      have ex : xs[i]? = some (xs[i]'(by omega)) := List.getElem?_eq_getElem _
      have ey : ys[i]? = some ys[i] := List.getElem?_eq_getElem _
      exact ⟨.ref a, rfl, _, rfl, .inl ⟨a, xs, _, _, rfl, rfl, SqL.of (sm _ _ ha), at_of (j := i) (by omega) ex, .ref b, rfl, _, rfl, .inl ⟨b, ys, _, _, rfl, rfl, SqL.of (sm _ _ hb), at_of (j := i) (by omega) ey, _, _, L, rfl, SameL.st (Same.stl sm) (h2 i _ _ ex ey), k⟩⟩⟩
     ·intro H2 sm e2
      refine ⟨Da, List.replicate ys.length true, rfl, SqL.of e2, ?_⟩
      rw [all_true]
      exact q _ sm
    ·refine ⟨.ref b, rfl, _, _, _, _, false, rfl, .ty "dict", .base (.tup hb), kit_ty (by decide +kernel), false, rfl, iteF ?_⟩
     refine ⟨.ref b, rfl, _, _, _, _, false, rfl, .ty "list", .base (.tup hb), kit_ty (by decide +kernel), false, rfl, iteF ⟨.ref b, rfl, _, _, _, _, true, rfl, .ty "tuple", .base (.tup hb), kit_ty (by decide +kernel), true, rfl, ?_⟩⟩
     refine iteT ?_
     refine ⟨.ref a, rfl, _, _, _, _, false, rfl, .ty "list", .base (.tup ha), kit_ty (by decide +kernel), .ref b, rfl, _, _, _, _, false, rfl, .ty "list", .base (.tup hb), kit_ty (by decide +kernel), rfl, false, blNF rfl, iteF ?_⟩
     refine ⟨.ref a, rfl, _, _, _, _, true, rfl, .ty "tuple", .base (.tup ha), kit_ty (by decide +kernel), .ref b, rfl, _, _, _, _, true, rfl, .ty "tuple", .base (.tup hb), kit_ty (by decide +kernel), rfl, false, blNF rfl, iteF ⟨.ref a, rfl, a, xs, rfl, .inr (.inl (.inl ha)), .ref b, rfl, b, ys, rfl, .inr (.inl (.inl hb)), rfl, false, blNF (by rw [hl]), iteF ?_⟩⟩
     refine ⟨.ref b, rfl, b, ys, rfl, .inr (.inl (.inl hb)), ys.length, rfl, by omega, by omega, fun Da nD => ?_⟩
     refine lc_all (walk_range (lo := 0) (n := ys.length)) (fun i x => x = .int (0 + (i : Int))) (fun i H x H' hi y => y) (fun _ _ => trivial) nD h1 (fun _ => rfl) ?_ ?_
     ·rintro i x H2 Q2 hi rfl sm k
      have ex : xs[i]? = some (xs[i]'(by omega)) := List.getElem?_eq_getElem _
      have ey : ys[i]? = some ys[i] := List.getElem?_eq_getElem _
      exact ⟨.ref a, rfl, _, rfl, .inr (.inl ⟨a, xs, _, _, rfl, rfl, .inl (.inl (sm _ _ ha)), at_of (j := i) (by omega) ex, .ref b, rfl, _, rfl, .inr (.inl ⟨b, ys, _, _, rfl, rfl, .inl (.inl (sm _ _ hb)), at_of (j := i) (by omega) ey, _, _, L, rfl, SameL.st (Same.stl sm) (h2 i _ _ ex ey), k⟩)⟩)⟩
     ·intro H2 sm e2
      refine ⟨Da, List.replicate ys.length true, rfl, SqL.of e2, ?_⟩
      rw [all_true]
      exact q _ sm

   ·-- dicts
    refine ⟨.ref b, rfl, _, _, _, _, true, rfl, .ty "dict", .base (.dK hb), kit_ty (by decide +kernel), true, rfl, iteT ?_⟩
    refine ⟨.ref a, rfl, _, _, _, _, true, rfl, .ty "dict", .base (.dK ha), kit_ty (by decide +kernel), true, rfl, iteF ⟨.ref a, rfl, a, kvs, rfl, .inl ha, .ref b, rfl, b, lvs, rfl, .inl hb, rfl, false, blNF (by rw [hl]), iteF ?_⟩⟩
    refine ⟨b, .dK lvs, hb, trivial, fun od => ⟨.ref b, rfl, b, od, rfl, .inl ⟨lvs, upd_same, fun Da nD => ?_⟩⟩⟩
    have rd1 : ∀ {H2 : Hp} {od : Obj}, Same (upd H b (.frz od (.dK lvs))) H2 → Rd H2 a (.dK kvs) := fun sm => rd_same sm (rd_put hb ha)
    refine lc_all walk_keys (fun i x => ∃ k v, (k, v) ∈ lvs ∧ x = kV k) ?_ (fun H sm => sm _ _ upd_same) nD h1 (fun _ => rfl) ?_ ?_
    ·rintro i H x H' hi ⟨rfl, k, v, e, rfl⟩
     exact ⟨rfl, k, v, List.mem_of_getElem? e, rfl⟩
    ·rintro i x H2 Q2 hi ⟨k, v, m, rfl⟩ sm kk
     refine ⟨kV k, rfl, .ref a, rfl, a, _, rfl, .inl ⟨kvs, k, rd1 sm, rfl, rfl⟩, ?_⟩
     obtain ⟨u, eu, _⟩ := h2 k v m
     rw [eu]
     exact kk _ (Same.refl _)
    ·intro H2 sm e2
     refine ⟨sm _ _ upd_same, Da, List.replicate lvs.length true, rfl, SqL.of ?_, true, by rw [all_true], iteF ?_⟩
     ·rw [upd_ne (show Da ≠ b from fun z => by rw [z, upd_same] at nD; cases nD)]
      exact e2
     have s3 : Same H (upd H2 b (.dK lvs)) := same_unlock hb sm
     generalize upd H2 b (.dK lvs) = H3 at s3
     have ha3 := s3 _ _ ha
     have hb3 := s3 _ _ hb
     clear e2 sm nD rd1
     refine ⟨b, .dK lvs, hb3, trivial, fun od => ⟨.ref b, rfl, b, od, rfl, .inl ⟨lvs, upd_same, fun Db nE => ?_⟩⟩⟩
     have rd1 : ∀ {H2 : Hp} {od : Obj}, Same (upd H3 b (.frz od (.dK lvs))) H2 → Rd H2 a (.dK kvs) := fun sm => rd_same sm (rd_put hb3 ha3)
     refine lc_all walk_keys (fun i x => ∃ k v, (k, v) ∈ lvs ∧ x = kV k) ?_ (fun H sm => sm _ _ upd_same) nE h1 (fun _ => rfl) ?_ ?_
     ·rintro i H x H' hi ⟨rfl, k, v, e, rfl⟩
      exact ⟨rfl, k, v, List.mem_of_getElem? e, rfl⟩
     ·rintro i x H4 Q2 hi ⟨k, v, m, rfl⟩ sm kk
      obtain ⟨u, eu, hu2⟩ := h2 k v m
      refine ⟨.ref a, rfl, kV k, rfl, a, u, rfl, .inl ⟨kvs, k, rd1 sm, rfl, eu.symm⟩, .ref b, rfl, kV k, rfl, b, v, rfl, .inl ⟨lvs, k, .inr ⟨od, sm _ _ upd_same⟩, rfl, (valV_nd hnd m).symm⟩, u, v, b :: L, rfl, ?_, kk⟩
      exact SameL.st (((Same.stl s3).trans (StL.lock hb3)).trans (Same.stl sm)) hu2
     ·intro H4 sm e4
      refine ⟨sm _ _ upd_same, Db, List.replicate lvs.length true, rfl, SqL.of ?_, ?_⟩
      ·rw [upd_ne (show Db ≠ b from fun z => by rw [z, upd_same] at nE; cases nE)]
       exact e4
      ·rw [all_true]
       exact q _ (s3.trans (same_unlock hb3 sm))
theorem ok_Lsame {f : Addr} {fd : FuncData} (D_Lsame : Df K mg "_law_same" s_Lsame f fd ["_law_one", "_law_other"]) (T : Nms mg) (n : Nat) : FnOk P w K mg base CX0 (n + 1) f fd ["_law_one", "_law_other"] (spLsame n) :=
 (ok_LsameL D_Lsame T n).imp fun vs H Q E h => by
  obtain ⟨x, y, e, h, q⟩ := h
  exact ⟨x, y, [], e, h, q⟩
end
end NW
namespace NW
open PySem PySem.Spec PyProof.Rows L2
open TL (tl)
open StX (pa_star)
abbrev s_Lmade : Stmt := topS 66
abbrev N_Lmade : List Str := ["_law_schema_here"]
theorem sc_Lmade : FnScope N_Lmade ["_law_schema_here"] (defScope s_Lmade) := ⟨rfl, rfl, rfl, by decide +kernel, rfl, by decide +kernel, by decide +kernel⟩
theorem lt_tot : ∀ {a b : List Nat}, ltCps a b = false → ltCps b a = false → a = b
 | [], [], _, _ => rfl
 | [], _ :: _, h, _ => by simp [ltCps] at h
 | _ :: _, [], _, h => by simp [ltCps] at h
 | x :: r, y :: t, h1, h2 => by
  simp only [ltCps, Bool.or_eq_false_iff, decide_eq_false_iff_not, Bool.and_eq_false_iff, beq_eq_false_iff_ne] at h1 h2
  have e : x = y := by omega
  subst e
  have h3 : ltCps r t = false := by
   rcases h1.2 with h | h
   ·exact absurd rfl h
   ·exact h
  have h4 : ltCps t r = false := by
   rcases h2.2 with h | h
   ·exact absurd rfl h
   ·exact h
  rw [lt_tot h3 h4]
theorem lt_trans' : ∀ {a b c : List Nat}, ltCps b a = false → ltCps c b = false → ltCps c a = false
 | [], _, [], _, _ => rfl
 | _ :: _, _, [], h1, h2 => by
  rename_i x r b
  cases b with
  | nil => simp [ltCps] at h1
  | cons y t => simp [ltCps] at h2
 | [], _, _ :: _, _, _ => rfl
 | x :: r, [], z :: u, h1, _ => by simp [ltCps] at h1
 | x :: r, y :: t, z :: u, h1, h2 => by
  simp only [ltCps, Bool.or_eq_false_iff, decide_eq_false_iff_not, Bool.and_eq_false_iff, beq_eq_false_iff_ne] at h1 h2 ⊢
  refine ⟨by omega, ?_⟩
  by_cases e : z = x
  ·right
   have e1 : x = y := by omega
   have e2 : y = z := by omega
   subst e1
   rcases h1.2 with h | h
   ·exact absurd rfl h
   ·rcases h2.2 with h' | h'
    ·exact absurd e2.symm h'
    ·exact lt_trans' h h'
  ·exact .inl e
theorem risingS_pw : ∀ {l : List Str} {p : Str}, risingS p l = true → (p :: l).Pairwise fun a b => ltCps (tl b) (tl a) = false
 | [], p, _ => by simp
 | x :: r, p, h => by
  simp only [risingS, Bool.and_eq_true, Bool.not_eq_true'] at h
  have ih := risingS_pw h.2
  refine List.pairwise_cons.mpr ⟨fun y hy => ?_, ih⟩
  rcases List.mem_cons.mp hy with rfl | hy
  ·exact h.1
  ·exact lt_trans' h.1 ((List.pairwise_cons.mp ih).1 y hy)
theorem sortedS_pw : ∀ {l : List Str}, sortedS l = true → l.Pairwise fun a b => ltCps (tl b) (tl a) = false
 | [], _ => by simp
 | _ :: _, h => risingS_pw h
theorem tl_inj {a b : Str} (h : tl a = tl b) : a = b := by
 cases a
 cases b
 exact congrArg Str.mk (Array.toList_inj.mp h)
theorem sorted_one {l m : List Str} (hl : sortedS l = true) (hm : sortedS m = true) (p : l.Perm m) : l = m :=
 List.Perm.eq_of_pairwise (le := fun a b => ltCps (tl b) (tl a) = false) (fun a b _ _ h1 h2 => tl_inj (lt_tot h2 h1)) (sortedS_pw hl) (sortedS_pw hm) p
def MemL (ks : List KRow) (us : List URow) (z : Str) (l : List Str) : Prop := sortedS l = true ∧ l.length ≤ 6 ∧
 ((z ∈ ks.map (·.nm) ∧ l = [z]) ∨ (z ∉ ks.map (·.nm) ∧ ∃ u ∈ us, u.nm = z ∧ l.Perm u.ms) ∨ (z ∉ ks.map (·.nm) ∧ z ∉ us.map (·.nm) ∧ l.Perm ((ks.filter fun k => decide (z ∈ k.fcs)).map (·.nm))))
theorem MemL.one {ks : List KRow} {us : List URow} {z : Str} {l m : List Str} (nd : (us.map (·.nm)).Nodup) (h1 : MemL ks us z l) (h2 : MemL ks us z m) : l = m := by
 obtain ⟨a1, _, a⟩ := h1
 obtain ⟨b1, _, b⟩ := h2
 rcases a with ⟨x1, rfl⟩ | ⟨x1, u, hu, eu, p⟩ | ⟨x1, x2, p⟩
 ·rcases b with ⟨_, rfl⟩ | ⟨y, _⟩ | ⟨y, _⟩
  ·rfl
  ·exact absurd x1 y
  ·exact absurd x1 y
 ·rcases b with ⟨y, _⟩ | ⟨_, v, hv, ev, p'⟩ | ⟨_, y, _⟩
  ·exact absurd y x1
  ·have : u = v := by
    obtain ⟨i, hi, ei⟩ := List.getElem_of_mem hu
    obtain ⟨j, hj, ej⟩ := List.getElem_of_mem hv
    have hh : (us.map (·.nm))[i]'(by rw [List.length_map]; exact hi) = (us.map (·.nm))[j]'(by rw [List.length_map]; exact hj) := by
     rw [List.getElem_map, List.getElem_map, ei, ej, eu, ev]
    have e := (List.getElem_inj nd).mp hh
    subst e
    rw [← ei, ← ej]
   subst this
   exact sorted_one a1 b1 (p.trans p'.symm)
  ·exact absurd (List.mem_map.mpr ⟨u, hu, eu⟩) y
 ·rcases b with ⟨y, _⟩ | ⟨_, v, hv, ev, _⟩ | ⟨_, _, p'⟩
  ·exact absurd y x1
  ·exact absurd (List.mem_map.mpr ⟨v, hv, ev⟩) x2
  ·exact sorted_one a1 b1 (p.trans p'.symm)
section
variable {P : Program} {w : World} {K : PySem.W.Frag} {mg : Str → Option Value} {base : Heap}

def SchT (H : Hp) (q kt ft ut : Addr) (ks : List KRow) (fs : List FRow) (us : List URow) (root : Str) : Prop := H q = some (.tup [.ref kt, .ref ft, .ref ut, .str root]) ∧ SchAt H kt ft ut ks fs us ∧ SchOk ks fs us root
def spLmade (C : Addr) : Sp := fun vs H Q _ => ∃ (q kt ft ut : Addr) (ks : List KRow) (fs : List FRow) (us : List URow) (root : Str), vs = [.ref q] ∧ SchT H q kt ft ut ks fs us root ∧
 ∀ x H', BuiltAt C H' x ks fs us root → Same H H' → H x = none → Q (.ref x) H'
theorem ok_Lmade {f fI C : Addr} {fd fdI : FuncData} (D : Df K mg "_law_made" s_Lmade f fd ["_law_schema_here"]) (T : Nms mg) (MS : Mk K C fI) (gS : mg "Schema" = some (.ref C)) (bI : Binds K fdI ["self", "kinds", "faces", "unions", "root"] [])
  (G_init : FnOk P w K mg base CX0 9 fI fdI ["self", "kinds", "faces", "unions", "root"] (spInit C)) : FnOk P w K mg base CX0 11 f fd ["_law_schema_here"] (spLmade C) := by
 refine D.F.ok sc_Lmade (fun vs H Q E h => ?_) (fun cdv A outer s H vs Q E hr h => ?_)
 ·obtain ⟨q, kt, ft, ut, ks, fs, us, root, rfl, _⟩ := h
  rfl
 ·obtain ⟨q, kt, ft, ut, ks, fs, us, root, rfl, ⟨hq, S, ok⟩, k⟩ := h
  refine ⟨_, (pss_one (ps_ret (pe_make MS G_init (hr.mono (by decide)) (by rfl) gS bI .nil pass0 (pa_cons (pe_callTy call_dictD (by rfl) T.n_dict (by decide +kernel) (pa_cons (pe_ix (ix_tupK K) (pv 0) pe_int (fun _ _ => rfl)) pa_nil)) (pa_cons (pe_callTy call_dictD (by rfl) T.n_dict (by decide +kernel) (pa_cons (pe_ix (ix_tupK K) (pv 0) pe_int (fun _ _ => rfl)) pa_nil)) (pa_cons (pe_callTy call_dictD (by rfl) T.n_dict (by decide +kernel) (pa_cons (pe_ix (ix_tupK K) (pv 0) pe_int (fun _ _ => rfl)) pa_nil)) (pa_cons (pe_ix (ix_tupK K) (pv 0) pe_int (fun _ _ => rfl)) pa_nil))))))), ?_⟩
  refine ⟨.ref q, rfl, q, _, 0, _, rfl, rfl, .inl (.inl hq), atI_nat (j := 0) rfl, kt, _, rfl, .inl S.kd, fun p1 np1 => ?_⟩
  have s1 := same_new (o := .dK (kkv ks)) np1
  refine ⟨.ref q, rfl, q, _, 1, _, rfl, rfl, .inl (.inl (s1 _ _ hq)), atI_nat (j := 1) rfl, ft, _, rfl, .inl (s1 _ _ S.fd), fun p2 np2 => ?_⟩
  have s2 := same_new (o := .dK (fkvs fs)) np2
  have s12 := s1.trans s2
  refine ⟨.ref q, rfl, q, _, 2, _, rfl, rfl, .inl (.inl (s12 _ _ hq)), atI_nat (j := 2) rfl, ut, _, rfl, .inl (s12 _ _ S.ud), fun p3 np3 => ?_⟩
  have s3 := same_new (o := .dK (ukv us)) np3
  have s13 := s12.trans s3
  have e1 := (s2.trans s3) _ _ (upd_same (H := H) (a := p1) (o := .dK (kkv ks)))
  have e2 := s3 _ _ (upd_same (H := upd H p1 (.dK (kkv ks))) (a := p2) (o := .dK (fkvs fs)))
  have e3 := upd_same (H := upd (upd H p1 (.dK (kkv ks))) p2 (.dK (fkvs fs))) (a := p3) (o := .dK (ukv us))
  refine ⟨.ref q, rfl, q, _, 3, _, rfl, rfl, .inl (.inl (s13 _ _ hq)), atI_nat (j := 3) rfl, ?_⟩
  intro x dx nx ndx nex
  have S3 := S.same s13
  have s4 : Same H (upd (upd (upd (upd (upd H p1 (.dK (kkv ks))) p2 (.dK (fkvs fs))) p3 (.dK (ukv us))) dx (.own x)) x (.ins C dx [])) := fun b o e => by
   have e' := s13 _ _ e
   rw [upd_ne (ne_of_none e' nx), upd_ne (ne_of_none e' ndx)]
   exact e'
  have s34 : Same (upd (upd (upd H p1 (.dK (kkv ks))) p2 (.dK (fkvs fs))) p3 (.dK (ukv us))) (upd (upd (upd (upd (upd H p1 (.dK (kkv ks))) p2 (.dK (fkvs fs))) p3 (.dK (ukv us))) dx (.own x)) x (.ins C dx [])) := fun b o e => by
   rw [upd_ne (ne_of_none e nx), upd_ne (ne_of_none e ndx)]
   exact e
  refine ⟨x, dx, p1, p2, p3, ks, fs, us, root, rfl, upd_same, ⟨s34 _ _ e1, s34 _ _ e2, s34 _ _ e3, fun k m => (S.ka k m).same s4, fun f m => (S.fa f m).same s4, fun u m => s4 _ _ (S.ua u m)⟩, ok, fun H' g bt => ⟨rfl, k x H' bt (fun b o e => ?_) (s13.free nx)⟩⟩
  exact g _ _ (ne_of_none (s13 _ _ e) nx) (s4 _ _ e)
end
end NW
namespace NW
open PySem PySem.Spec PyProof.Rows L2
section
variable {X : Cx} {CX : CXT} {k : Nat} {C f : Addr} {m : Str} {fd : FuncData} {ps : List Str} {sp : Sp} {E : L2.St → XK} {o e : Expr} {es : List Expr} {ta : TE} {t : TA} {apos pos : Pos} {pl : Sem Bool}
def tMethX (C : Addr) (m : Str) (sp : Sp) (E : L2.St → XK) (ta : TE) (t : TA) : TE := fun σ H Q => ta σ H fun x H1 => ∃ a dx fs, x = .ref a ∧ H1 a = some (.ins C dx fs) ∧ fs.lookup m = none ∧ t σ H1 fun vs H2 => sp (.ref a :: vs) H2 Q (E σ)
theorem pe_methX (he : PE X o ta) (c : Cls X.K C) (hm : Meth X.K C m f) (F : FnOk X.prog X.w X.K X.mg X.base CX k f fd ps sp) (hr : Room k X.A) (hb : Binds X.K fd ps []) (hx : ∀ σ, PassesAt CX X σ (E σ)) (ha : PA X (e :: es) t)
  (hst : starEach (e :: es) X.env = (false, eval e X.env) :: starEach es X.env := by rfl) (hpl : (backTo pos (starEach es X.env)).any (·.1) = false := by rfl)
  (ht : eval (.Call (.Attribute o m apos) (e :: es) [] pos) X.env = (do
   let held ← eval o X.env
   standAt apos.atName
   let (f, first) ← holding [held] (getMethod held m pl)
   callWith pos f first (backTo pos (starEach (e :: es) X.env)) (backToKw pos (keywordEach [] X.env))) := by rfl) :
  PE X (.Call (.Attribute o m apos) (e :: es) [] pos) (tMethX C m sp E ta t) := by
 refine ⟨fun pins s σ H Q I h => ?_⟩
 refine PySem.W.methodCall_KW (pl := pl) (thn (he.run pins s σ H _ I h) fun u s1 ⟨x, H1, I1, rx, a, dx, fs, ex, ea, l, q⟩ => ?_) ht
 subst ex
 cases rx
 refine getmeth_ok I1 ea c hm l ?_
 refine PySem.W.callWith_K (first := [.ref a]) (h₀ := X.base) I.ok.mod.kin hm.kp (thn (ha.run pos pins s1 σ H1 _ I1 q) fun us s2 ⟨vs, H2, I2, r, q2⟩ => ⟨I2.kIn, ?_⟩) hst hpl
 exact run_fnS (us := .ref a :: us) (vs := .ref a :: vs) F hr hb (hx σ) I2 (.cons rfl r) q2
end
end NW
namespace NW
open PySem PySem.Spec PyProof.Rows L2
section
variable {X : Cx} {CY : CXT} {cls : Str} {C fI : Addr} {n : Nat} {dat : FuncData} {pars : List Str} {prom : Sp} {a0 : Expr} {as : List Expr} {tas : TA} {np cp : Pos}
theorem pmkN (T : OexC X.K C) (hI : PySem.W.findIn X.K (.ref C) "__init__" = some (some (.ref fI))) (hT : PySem.W.typeIn X.K (.ref fI) = some (.type "function")) (G : FnOk X.prog X.w X.K X.mg X.base CY n fI dat pars prom)
  (room : Room (n + 1) X.A) (bi : Binds X.K dat pars []) (ps0 : Passes CY X (fun _ _ _ => False)) (gl : L2.Gl X cls) (mgC : X.mg cls = some (.ref C)) (pas : PA X (a0 :: as) tas) (nd : (cls == ("__debug__" : Str)) = false := by decide)
  (st : starEach (a0 :: as) X.env = (false, eval a0 X.env) :: starEach as X.env := by rfl) (pl : (backTo cp (starEach as X.env)).any (·.1) = false := by rfl) : L2N.PMk X (.Call (.Name cls np) (a0 :: as) [] cp) (tMkO C prom [] tas) := by
 intro pins s σ H Q I reading
 obtain ⟨_, _, _, _, bm, _, _, _, _, _, _, _, _, _, _, hC, inB⟩ := T.cls
 refine wpAny_Call_Name_kw (ld_glob I gl mgC (PySem.W.callWith_K (h₀ := X.base) I.ok.mod.kin T.kC (thn (pas.run cp pins s σ H _ I reading) fun us s1 ⟨vs, H1, J1, rs, few, made⟩ => ⟨J1.kIn, ?_⟩) st pl) nd)
 show wpAny _ _ (call (.ref C) us) _ _ _
 obtain ⟨h1, gs, drw, tks, sys⟩ := s1
 generalize hat : h1.objs.size + 1 = new at *
 have ge1 : h1.objs.size ≤ new := by omega
 have promised := made new (J1.hok.fresh ge1)
 rw [List.append_nil] at promised
 generalize hG2 : (h1.push (PySem.W.kdv_tup us)).push (PySem.HandSPX.excO C h1.objs.size) = h2 at *
 have kept : ∀ b o, h1.get? b = some o → h2.get? b = some o := fun b o e => by rw [← hG2]; exact Heap.get?_push_of_some _ (Heap.get?_push_of_some _ e)
 have there : h2.get? new = some (PySem.HandSPX.excO C h1.objs.size) := by
  rw [← hG2, ← hat]
  heap_get
 have J2 : Inv X pins σ (upd H1 new (exo new C none)) ⟨h2, gs, drw, tks, sys⟩ := J1.laid (t' := tks) kept ge1 (exo_ok there)
 have rs2 : Vals (V.ref new :: vs) (Value.ref new :: us) := .cons rfl rs
 have len2 : (Value.ref new :: us).length = pars.length := by rw [← rs2.length]; exact G.len _ _ _ _ promised
 have bnd := bi _ (Value.ref new :: us) J2.kIn (by rw [List.append_nil]; exact len2)
 rw [List.append_nil] at bnd
 have lus : us.length ≤ sizeLine := by rw [← rs.length, sizeLine_eq]; omega
 refine wpAny_call (PySem.HandSPX.call_own F.excBase_ValueError (fun Y => PySem.HandSPX.refsVE_contains Y bm inB) (J1.kIn _ _ hC) (PySem.W.looks_findIn J1.kIn hI) (fun self => PySem.W.bind_fn J1.kIn self hT) lus ?_)
 rw [hG2, hat]
 refine codeAny_mono (G.run _ X.stack _ _ ⟨Value.ref new :: us, []⟩ _ _ _ (fun _ _ _ => False) (room.make C us []) (J2.env0.make C us []) bnd rs2 promised) fun res s' done => ?_
 cases res with
 | error er => exact ps0 pins σ _ _ er s' J2 done
 | ok fl =>
  cases fl with
  | ret u =>
   obtain ⟨v, H2, os2, bare2, un2, hok2, rv, ev, d, fs, ea, ed, hd1, q2⟩ := done
   subst ev
   obtain ⟨h3, gs3, drw3, tks3, sys3⟩ := s'
   obtain ⟨t0, G3, J, kG, ge, hoe, na⟩ := mk_end0 (d2 := drw3) (t2 := tks3) J1 ge1 kept un2 hok2 os2 bare2 ea ed hd1
   exact ⟨rv, new, _, _, ⟨G3, gs3, drw3, tks3, sys3⟩, _, .ref C, some d, rfl, J, kG, ge, hoe, ⟨rfl, rfl, fun ws e => by cases e; rfl⟩, rfl, rfl, na, rfl, bare2, raises_own T.exC T.tyC, q2⟩
  | next => exact done.elim
  | brk => exact done.elim
  | cont => exact done.elim
end
section
variable {P : Program} {w : World} {K : PySem.W.Frag} {mg : Str → Option Value} {base : Heap} {CY : CXT} {nm qn : Str} {d0 : Stmt} {fa : Addr} {dat : FuncData} {NN pars : List Str} {n : Nat} {prom : Sp}
theorem okC (G : Fun K nm qn d0 fa dat) (S : FnScope NN pars (defScope d0)) (ln : ∀ vs H Q E, prom vs H Q E → vs.length = pars.length)
  (go : ∀ cdv A outer s H vs Q E, Room n (A.deeper (envOfC qn (defScope d0) s.heap.objs.size fa cdv)) → prom vs H Q E → ∃ t, PSs (cxOf CY P w K mg base NN qn (defScope d0) fa cdv A outer s H E) (defBody d0) t ∧ t { nx := fun _ H' => Q .non H', rt := Q } (start NN vs) H) :
  FnOk P w K mg base CY (n + 1) fa dat pars prom := by
 obtain ⟨_, _, _, _, _, _, cdv, _, _, rfl, lk, ci⟩ := G.ex
 exact fn_of lk ci S ln (go cdv)
end
end NW
namespace NW
open PySem PySem.Spec PyProof.Rows L2
open TL (tl)
open StX (pa_star)
abbrev s_NoBase_init : Stmt := inClass (topS 4) 0
abbrev N_NoBase_init : List Str := ["self", "base"]
theorem sc_NoBase_init : FnScope N_NoBase_init ["self", "base"] (defScope s_NoBase_init) := ⟨rfl, rfl, rfl, by decide +kernel, rfl, by decide +kernel, by decide +kernel⟩
abbrev s_Schema_shapes_at : Stmt := inClass (topS 56) 8
abbrev N_Schema_shapes_at : List Str := ["self", "base"]
theorem sc_Schema_shapes_at : FnScope N_Schema_shapes_at ["self", "base"] (defScope s_Schema_shapes_at) := ⟨rfl, rfl, rfl, by decide +kernel, rfl, by decide +kernel, by decide +kernel⟩
structure NoB (K : PySem.W.Frag) (mg : Str → Option Value) (C fI : Addr) : Prop where
 T : OexC K C
 iC : PySem.W.findIn K (.ref C) "__init__" = some (some (.ref fI))
 tI : PySem.W.typeIn K (.ref fI) = some (.type "function")
 g : mg "NoBase" = some (.ref C)
 no : PySem.W.findIn K (.ref C) "base" = some none
section
variable {P : Program} {w : World} {K : PySem.W.Frag} {mg : Str → Option Value} {base : Heap}

def spNB (C : Addr) : Sp := fun vs H Q _ => ∃ (a : Addr) (y : V), vs = [.ref a, y] ∧ H a = some (exo a C none) ∧ ∀ dx, H dx = none → dx ≠ a → Q .non (upd (upd H dx (exd dx [("base", y)])) a (exo a C (some dx)))
theorem ok_NB {f C : Addr} {fd : FuncData} (F : Fun K "__init__" "NoBase.__init__" s_NoBase_init f fd) (N : NoB K mg C f) : FnOk P w K mg base CX0 1 f fd ["self", "base"] (spNB C) := by
 refine F.ok sc_NoBase_init (fun vs H Q E h => ?_) (fun cdv A outer s H vs Q E hr h => ?_)
 ·obtain ⟨a, y, rfl, _⟩ := h
  rfl
 ·obtain ⟨a, y, rfl, ha, q⟩ := h
  refine ⟨_, (pss_one (ps_ost (pv 0) (pv 1))), ?_⟩
  exact ⟨y, rfl, .ref a, rfl, a, C, rfl, N.T, N.no, .inl ⟨ha, q⟩⟩
def FdsOf (ks : List KRow) (fs : List FRow) (z : Str) (fds : List Fld) : Prop :=
 (∃ k ∈ ks, k.nm = z ∧ fds = k.fds) ∨ (z ∉ ks.map (·.nm) ∧ ∃ f ∈ fs, f.nm = z ∧ fds = f.fds) ∨ (z ∉ ks.map (·.nm) ∧ z ∉ fs.map (·.nm) ∧ fds = [])
def spShapes (K : PySem.W.Frag) (C CN : Addr) : Sp := fun vs H Q E => ∃ (x : Addr) (y : V) (ks : List KRow) (fs : List FRow) (us : List URow) (root : Str), vs = [.ref x, y] ∧ BuiltAt C H x ks fs us root ∧ SchOk ks fs us root ∧
 ((∃ z, y = .str z ∧ z ∈ bsOf ks fs us ∧ ∀ (fds : List Fld) p H', FdsOf ks fs z fds → (∀ f ∈ fds, ShAt H' f.2.1 f.2.2) → Same H H' → H p = none → H' p = some (.dK (fkv fds)) → Q (.ref p) H') ∨
  (((∃ z, y = .str z ∧ z ∉ bsOf ks fs us) ∨ ∃ t, TyX K H y t ∧ PySem.W.kitOne K t (.type "str") = some false) ∧ ∀ d H', Same H H' → H d = none → H' d = some (.xd [("base", y)]) → E (.ref CN) (some d) H'))
theorem ok_shapes_at {f f1 f2 C CN : Addr} {fd fd1 fd2 : FuncData} (F : Fun K "shapes_at" "Schema.shapes_at" s_Schema_shapes_at f fd) (mC : InM K C f1) (bC : Binds K fd1 ["self", "base"] []) (G_contains : FnOk P w K mg base CX0 2 f1 fd1 ["self", "base"] (spContains K C))
  (NN : NoB K mg CN f2) (bN : Binds K fd2 ["self", "base"] []) (G_NB : FnOk P w K mg base CX0 1 f2 fd2 ["self", "base"] (spNB CN)) (T : Nms mg) (L : ClT K C) : FnOk P w K mg base (L2N.CX P w) 4 f fd ["self", "base"] (spShapes K C CN) := by
 have TN := NN.T
 have iC := NN.iC
 have tI := NN.tI
 have gN := NN.g
 refine okC F sc_Schema_shapes_at (fun vs H Q E h => ?_) (fun cdv A outer s H vs Q E hr h => ?_)
 ·obtain ⟨x, y, ks, fs, us, root, rfl, _⟩ := h
  rfl
 ·obtain ⟨x, y, ks, fs, us, root, rfl, Bt, ok, q⟩ := h
  have hu := hu_of hr
  refine ⟨_, (pss_cons (ps_if (pt_cmpR (op_notIn_own mC G_contains (hr.mono (by decide)) bC .nil pass0) (pv 1) (pv 0) (by rfl))
    (pss_one (L2N.ps_raise rfl (L2N.takes_of rfl rfl rfl rfl) (pmkN TN iC tI G_NB (hr.mono (by decide)) bN pass0 (by rfl) gN (pa_cons (pv 1) pa_nil))))
    pss_nil)
   (PSs.nox (pss_cons (ps_if (pt_cmp (pc_din hu (pv 1) (pe_fld (pv 0) rfl)) rfl)
    (pss_one (ps_ret (pe_callTy call_dictD (by rfl) T.n_dict (by decide +kernel) (pa_cons (pe_ix ix_tup (pe_dget hu (pe_fld (pv 0) rfl) (pv 1) (fun _ _ => rfl)) pe_int (fun _ _ => rfl)) pa_nil))))
    pss_nil)
   (pss_cons (ps_if (pt_cmp (pc_din hu (pv 1) (pe_fld (pv 0) rfl)) rfl)
    (pss_one (ps_ret (pe_callTy call_dictD (by rfl) T.n_dict (by decide +kernel) (pa_cons (pe_dget hu (pe_fld (pv 0) rfl) (pv 1) (fun _ _ => rfl)) pa_nil))))
    pss_nil)
   (pss_one (ps_ret pe_dnewK)))))), ?_⟩
  have k1 := ok.k1
  have f1' := ok.f1
  have u1 := ok.u1
  have Bt' := Bt
  obtain ⟨dx0, kt, ft, ut, ks', fs', us', hx, S, rk, rf, ru⟩ := Bt'
  obtain ⟨e1, e2, e3⟩ := Bt.names ks' fs' us' rk rf ru
  have bad : ∀ H1, Same H H1 → (∀ d H', Same H H' → H d = none → H' d = some (.xd [("base", y)]) → E (.ref CN) (some d) H') → ∀ a, H1 a = none → spNB CN ([.ref a, y]) (upd H1 a (exo a CN none)) (fun v H2 => v = .non ∧ ∃ (d : Addr) (fs : List (Str × V)), H2 a = some (exo a CN (some d)) ∧ H2 d = some (exd d fs) ∧ H1 d = none ∧ E (.ref CN) (some d) (upd (del H2 a) d (.xd fs))) E0 := by
   intro H1 s1 k a na
   refine ⟨a, y, rfl, upd_same, fun d nd nda => ⟨rfl, d, [("base", y)], upd_same, by rw [upd_ne nda, upd_same], ?_, ?_⟩⟩
   ·rw [upd_ne nda] at nd
    exact nd
   ·rw [upd_ne nda] at nd
    refine k d _ (fun b o e => ?_) (s1.free nd) upd_same
    have eb := s1 _ _ e
    have nbd : b ≠ d := ne_of_none eb nd
    have nba : b ≠ a := ne_of_none eb na
    rw [upd_ne nbd, del_ne nba, upd_ne nba, upd_ne nbd, upd_ne nba]
    exact eb
  rcases q with ⟨z, rfl, hz, q⟩ | ⟨hbad, q⟩
  ·refine ⟨.str z, rfl, .ref x, rfl, x, dx0, _, rfl, hx, x, .str z, ks, fs, us, root, rfl, Bt, k1, f1', u1, .inl ⟨z, rfl, fun H1 s1 => ⟨_, rfl, _, rfl, ?_⟩⟩⟩
   rw [decide_eq_true hz]
   refine iteF ?_
   have hx1 := s1 _ _ hx
   have S1 := S.same s1
   refine ⟨.str z, rfl, .ref x, rfl, x, C, dx0, _, _, rfl, hx1, L.cl, L.nk, lkk .., kt, _, rfl, .inl ⟨kkv ks', .inr z, .inl S1.kd, rfl, rfl⟩, _, rfl, ?_⟩
   have ndk : (ks'.map (·.nm)).Nodup := by rw [e1]; exact ok.ndk
   have ndf : (fs'.map (·.nm)).Nodup := by rw [e2]; exact ok.ndf
   by_cases hk : z ∈ ks.map (·.nm)
   ·obtain ⟨k', km', en⟩ := List.mem_map.mp (show z ∈ ks'.map (·.nm) by rw [e1]; exact hk)
    subst en
    rw [kkv_val ndk km']
    obtain ⟨i, hi, ei⟩ := List.getElem_of_mem km'
    have hi2 : i < ks.length := by rw [← rk.1]; exact hi
    obtain ⟨r1, r2, r3, r4⟩ := rk.2 i ks[i] k' (List.getElem?_eq_getElem hi2) (by rw [← ei]; exact List.getElem?_eq_getElem hi)
    have hr' := S1.ka k' km'
    refine iteT ⟨.ref x, rfl, x, C, dx0, _, _, rfl, hx1, L.cl, L.nk, lkk .., .str k'.nm, rfl, kt, _, rfl, .inl ⟨kkv ks', .inr k'.nm, .inl S1.kd, rfl, (kkv_val ndk km').symm⟩, k'.t, _, 1, _, rfl, rfl, .inl (.inl hr'.t), atI_nat (j := 1) rfl, k'.da, _, rfl, .inl hr'.d.at_, fun p np => q k'.fds p _ (.inl ⟨ks[i], List.getElem_mem hi2, r1.symm, r4⟩) (fun f m => (hr'.d.sh f m).same (same_new np)) (s1.trans (same_new np)) (s1.free np) upd_same⟩
   ·have e0 : valV (kkv ks') (Sum.inr z) = none := valV_out (f := fun k : KRow => k.nm) (g := fun k => V.ref k.t) (by rw [e1]; exact hk)
    rw [e0]
    refine iteF ⟨.str z, rfl, .ref x, rfl, x, C, dx0, _, _, rfl, hx1, L.cl, L.nf, lkf .., ft, _, rfl, .inl ⟨fkvs fs', .inr z, .inl S1.fd, rfl, rfl⟩, _, rfl, ?_⟩
    by_cases hf : z ∈ fs.map (·.nm)
    ·obtain ⟨f', fm', en⟩ := List.mem_map.mp (show z ∈ fs'.map (·.nm) by rw [e2]; exact hf)
     subst en
     rw [fkvs_val ndf fm']
     obtain ⟨i, hi, ei⟩ := List.getElem_of_mem fm'
     have hi2 : i < fs.length := by rw [← rf.1]; exact hi
     obtain ⟨r1, r2⟩ := rf.2 i fs[i] f' (List.getElem?_eq_getElem hi2) (by rw [← ei]; exact List.getElem?_eq_getElem hi)
     have hr' := S1.fa f' fm'
     refine iteT ⟨.ref x, rfl, x, C, dx0, _, _, rfl, hx1, L.cl, L.nf, lkf .., .str f'.nm, rfl, ft, _, rfl, .inl ⟨fkvs fs', .inr f'.nm, .inl S1.fd, rfl, (fkvs_val ndf fm').symm⟩, f'.da, _, rfl, .inl hr'.at_, fun p np => q f'.fds p _ (.inr (.inl ⟨hk, fs[i], List.getElem_mem hi2, r1.symm, r2⟩)) (fun f m => (hr'.sh f m).same (same_new np)) (s1.trans (same_new np)) (s1.free np) upd_same⟩
    ·have e0' : valV (fkvs fs') (Sum.inr z) = none := valV_out (f := fun k : FRow => k.nm) (g := fun k => V.ref k.da) (by rw [e2]; exact hf)
     rw [e0']
     exact iteF fun p np => q [] p _ (.inr (.inr ⟨hk, hf, rfl⟩)) (fun _ m => nomatch m) (s1.trans (same_new np)) (s1.free np) upd_same
  ·rcases hbad with ⟨z, rfl, hz⟩ | ⟨t, ht, hkt⟩
   ·refine ⟨.str z, rfl, .ref x, rfl, x, dx0, _, rfl, hx, x, .str z, ks, fs, us, root, rfl, Bt, k1, f1', u1, .inl ⟨z, rfl, fun H1 s1 => ⟨_, rfl, _, rfl, ?_⟩⟩⟩
    rw [decide_eq_false hz]
    exact iteT ⟨.str z, rfl, by show 1 ≤ 1000; decide, bad H1 s1 q⟩
   ·exact ⟨y, rfl, .ref x, rfl, x, dx0, _, rfl, hx, x, y, ks, fs, us, root, rfl, Bt, k1, f1', u1, .inr ⟨t, ht, hkt, fun H1 s1 => ⟨_, rfl, _, rfl, iteT ⟨y, rfl, by show 1 ≤ 1000; decide, bad H1 s1 q⟩⟩⟩⟩
end
end NW
namespace NW
open PySem PySem.Spec PyProof.Rows L2
open TL (tl)
open StX (pa_star)
abbrev s_Schema_fields : Stmt := inClass (topS 56) 9
abbrev N_Schema_fields : List Str := ["self", "base"]
theorem sc_Schema_fields : FnScope N_Schema_fields ["self", "base"] (defScope s_Schema_fields) := ⟨rfl, rfl, rfl, by decide +kernel, rfl, by decide +kernel, by decide +kernel⟩
section
variable {P : Program} {w : World} {K : PySem.W.Frag} {mg : Str → Option Value} {base : Heap}

theorem FdsOf.few {ks : List KRow} {fs : List FRow} {us : List URow} {root z : Str} {fds : List Fld} (ok : SchOk ks fs us root) (h : FdsOf ks fs z fds) : fds.length ≤ 5 := by
 rcases h with ⟨k, m, _, rfl⟩ | ⟨_, f, m, _, rfl⟩ | ⟨_, _, rfl⟩
 ·exact (ok.kd k m).n1
 ·exact Nat.le_trans (ok.fd f m).n1 (by decide)
 ·exact Nat.zero_le _
def spFields (K : PySem.W.Frag) (C CN : Addr) : Sp := fun vs H Q E => ∃ (x : Addr) (y : V) (ks : List KRow) (fs : List FRow) (us : List URow) (root : Str), vs = [.ref x, y] ∧ BuiltAt C H x ks fs us root ∧ SchOk ks fs us root ∧
 ((∃ z, y = .str z ∧ z ∈ bsOf ks fs us ∧ ∀ (fds : List Fld) (l : List Str) p H', FdsOf ks fs z fds → l.Perm (fds.map (·.1)) → sortedS l = true → Same H H' → H p = none → H' p = some (.lst (l.map V.str)) → Q (.ref p) H') ∨
  (((∃ z, y = .str z ∧ z ∉ bsOf ks fs us) ∨ ∃ t, TyX K H y t ∧ PySem.W.kitOne K t (.type "str") = some false) ∧ ∀ d H', Same H H' → H d = none → H' d = some (.xd [("base", y)]) → E (.ref CN) (some d) H'))
theorem ok_fields {f f1 C CN : Addr} {fd fd1 : FuncData} (F : Fun K "fields" "Schema.fields" s_Schema_fields f fd) (M : Mt K C "shapes_at" "Schema.shapes_at" s_Schema_shapes_at f1 fd1 ["self", "base"]) (G_shapes_at : FnOk P w K mg base (L2N.CX P w) 4 f1 fd1 ["self", "base"] (spShapes K C CN))
  (T : Nms mg) (L : ClT K C) : FnOk P w K mg base (L2N.CX P w) 5 f fd ["self", "base"] (spFields K C CN) := by
 refine okC F sc_Schema_fields (fun vs H Q E h => ?_) (fun cdv A outer s H vs Q E hr h => ?_)
 ·obtain ⟨x, y, ks, fs, us, root, rfl, _⟩ := h
  rfl
 ·obtain ⟨x, y, ks, fs, us, root, rfl, Bt, ok, q⟩ := h
  refine ⟨_, (pss_one (ps_ret (pe_callB (call_sortedD rfl) (by rfl) T.n_sorted (by decide +kernel) (pa_cons (pe_methX (pv 0) L.cl M.m G_shapes_at (hr.mono (by decide)) M.b (fun σ => L2N.passAt (L2N.takes_of rfl rfl rfl rfl) σ) (pa_cons (pv 1) pa_nil)) pa_nil)))), ?_⟩
  have Bt' := Bt
  obtain ⟨dx0, kt, ft, ut, ks', fs', us', hx, _⟩ := Bt'
  refine ⟨.ref x, rfl, x, dx0, _, rfl, hx, lkn _ _ _ _ (by decide +kernel) (by decide +kernel) (by decide +kernel) (by decide +kernel), y, rfl, x, y, ks, fs, us, root, rfl, Bt, ok, ?_⟩
  rcases q with ⟨z, rfl, hz, q⟩ | ⟨hbad, q⟩
  ·refine .inl ⟨z, rfl, hz, fun fds p1 H1 hf _ s1 n1 e1 => ⟨p1, fkv fds, _, rfl, .inl e1, fkv_keys fds, ?_, fun ys p pm so np => q fds ys p _ hf pm so (s1.trans (same_new np)) (s1.free np) upd_same⟩⟩
   rw [List.length_map]
   exact Nat.lt_of_le_of_lt (hf.few ok) (by decide)
  ·exact .inr ⟨hbad, q⟩
end
end NW
namespace NW
open PySem PySem.Spec PyProof.Rows L2
open TL (tl)
open StX (pa_star)
abbrev s_Schema_shape_of : Stmt := inClass (topS 56) 10
abbrev N_Schema_shape_of : List Str := ["self", "base", "field", "shapes"]
theorem sc_Schema_shape_of : FnScope N_Schema_shape_of ["self", "base", "field"] (defScope s_Schema_shape_of) := ⟨rfl, rfl, rfl, by decide +kernel, rfl, by decide +kernel, by decide +kernel⟩
abbrev s_NoField_init : Stmt := inClass (topS 5) 0
abbrev N_NoField_init : List Str := ["self", "base", "field"]
theorem sc_NoField_init : FnScope N_NoField_init ["self", "base", "field"] (defScope s_NoField_init) := ⟨rfl, rfl, rfl, by decide +kernel, rfl, by decide +kernel, by decide +kernel⟩
structure NoF (K : PySem.W.Frag) (mg : Str → Option Value) (C fI : Addr) : Prop where
 T : OexC K C
 iC : PySem.W.findIn K (.ref C) "__init__" = some (some (.ref fI))
 tI : PySem.W.typeIn K (.ref fI) = some (.type "function")
 g : mg "NoField" = some (.ref C)
 nb : PySem.W.findIn K (.ref C) "base" = some none
 nf : PySem.W.findIn K (.ref C) "field" = some none
section
variable {P : Program} {w : World} {K : PySem.W.Frag} {mg : Str → Option Value} {base : Heap}

def spNF (C : Addr) : Sp := fun vs H Q _ => ∃ (a : Addr) (y u : V), vs = [.ref a, y, u] ∧ H a = some (exo a C none) ∧ ∀ dx H', H dx = none → dx ≠ a → H' a = some (exo a C (some dx)) → H' dx = some (exd dx [("field", u), ("base", y)]) → (∀ b, b ≠ a → b ≠ dx → H' b = H b) → Q .non H'
theorem ok_NF {f C : Addr} {fd : FuncData} (F : Fun K "__init__" "NoField.__init__" s_NoField_init f fd) (N : NoF K mg C f) : FnOk P w K mg base CX0 1 f fd ["self", "base", "field"] (spNF C) := by
 refine F.ok sc_NoField_init (fun vs H Q E h => ?_) (fun cdv A outer s H vs Q E hr h => ?_)
 ·obtain ⟨a, y, u, rfl, _⟩ := h
  rfl
 ·obtain ⟨a, y, u, rfl, ha, q⟩ := h
  refine ⟨_, (pss_cons (ps_ost (pv 0) (pv 1))
   (pss_one (ps_ost (pv 0) (pv 2)))), ?_⟩
  refine ⟨y, rfl, .ref a, rfl, a, C, rfl, N.T, N.nb, .inl ⟨ha, fun dx nd nda => ?_⟩⟩
  refine ⟨u, rfl, .ref a, rfl, a, C, rfl, N.T, N.nf, .inr ⟨dx, [("base", y)], upd_same, by rw [upd_ne nda]; exact upd_same, by show 1 ≤ 900; decide, ?_⟩⟩
  refine q dx _ nd nda ?_ ?_ ?_
  ·rw [upd_ne (Ne.symm nda)]
   exact upd_same
  ·exact upd_same
  ·intro b h1 h2
   rw [upd_ne h2, upd_ne h1, upd_ne h2]
def spShapeOf (K : PySem.W.Frag) (C CN CF : Addr) : Sp := fun vs H Q E => ∃ (x : Addr) (y u : V) (ks : List KRow) (fs : List FRow) (us : List URow) (root : Str), vs = [.ref x, y, u] ∧ BuiltAt C H x ks fs us root ∧ SchOk ks fs us root ∧
 ((∃ z, y = .str z ∧ z ∈ bsOf ks fs us ∧ ∀ (fds : List Fld), FdsOf ks fs z fds →
   ((∃ g, u = .str g ∧ ((∃ fl ∈ fds, fl.1 = g ∧ ∀ H', Same H H' → ShAt H' fl.2.1 fl.2.2 → Q fl.2.1 H') ∨ (g ∉ fds.map (·.1) ∧ ∀ d H', Same H H' → H d = none → H' d = some (.xd [("field", u), ("base", y)]) → E (.ref CF) (some d) H'))) ∨
    ((∃ t, (∀ H', Same H H' → TyX K H' u t) ∧ PySem.W.kitOne K t (.type "str") = some false) ∧ ∀ d H', Same H H' → H d = none → H' d = some (.xd [("field", u), ("base", y)]) → E (.ref CF) (some d) H'))) ∨
  (((∃ z, y = .str z ∧ z ∉ bsOf ks fs us) ∨ ∃ t, TyX K H y t ∧ PySem.W.kitOne K t (.type "str") = some false) ∧ ∀ d H', Same H H' → H d = none → H' d = some (.xd [("base", y)]) → E (.ref CN) (some d) H'))
theorem FdsOf.nd {ks : List KRow} {fs : List FRow} {us : List URow} {root z : Str} {fds : List Fld} (ok : SchOk ks fs us root) (h : FdsOf ks fs z fds) : (fds.map (·.1)).Nodup := by
 rcases h with ⟨k, m, _, rfl⟩ | ⟨_, f, m, _, rfl⟩ | ⟨_, _, rfl⟩
 ·exact (ok.kd k m).nd
 ·exact (ok.fd f m).nd
 ·exact List.nodup_nil
theorem ok_shape_of {f f1 f2 f3 C CN CF : Addr} {fd fd1 fd2 fd3 : FuncData} (F : Fun K "shape_of" "Schema.shape_of" s_Schema_shape_of f fd) (M : Mt K C "shapes_at" "Schema.shapes_at" s_Schema_shapes_at f1 fd1 ["self", "base"]) (G_shapes_at : FnOk P w K mg base (L2N.CX P w) 4 f1 fd1 ["self", "base"] (spShapes K C CN))
  (D_is_key : Df K mg "is_key" s_is_key f2 fd2 ["name", "table"]) (G_is_key : FnOk P w K mg base CX0 1 f2 fd2 ["name", "table"] (spIsKey K)) (NF : NoF K mg CF f3) (bF : Binds K fd3 ["self", "base", "field"] []) (G_NF : FnOk P w K mg base CX0 1 f3 fd3 ["self", "base", "field"] (spNF CF))
  (T : Nms mg) (L : ClT K C) : FnOk P w K mg base (L2N.CX P w) 5 f fd ["self", "base", "field"] (spShapeOf K C CN CF) := by
 refine okC F sc_Schema_shape_of (fun vs H Q E h => ?_) (fun cdv A outer s H vs Q E hr h => ?_)
 ·obtain ⟨x, y, u, ks, fs, us, root, rfl, _⟩ := h
  rfl
 ·obtain ⟨x, y, u, ks, fs, us, root, rfl, Bt, ok, q⟩ := h
  have hu := hu_of hr
  refine ⟨_, (pss_cons (ps_set (i := 3) sc_Schema_shape_of.nd rfl (.inl rfl) (pe_methX (pv 0) L.cl M.m G_shapes_at (hr.mono (by decide)) M.b (fun σ => L2N.passAt (L2N.takes_of rfl rfl rfl rfl) σ) (pa_cons (pv 1) pa_nil)))
   (pss_cons (ps_if (pt_not (pt_val (pe_call G_is_key (hr.mono (by decide)) (by rfl) D_is_key.g D_is_key.F.kp D_is_key.b .nil pass0 (pa_cons (pv 2) (pa_cons (pv 3) pa_nil)))))
    (pss_one (L2N.ps_raise rfl (L2N.takes_of rfl rfl rfl rfl) (pmkN NF.T NF.iC NF.tI G_NF (hr.mono (by decide)) bF pass0 (by rfl) NF.g (pa_cons (pv 1) (pa_cons (pv 2) pa_nil)))))
    pss_nil)
   (pss_one (ps_ret (pe_dget hu (pv 3) (pv 2) (fun _ _ => rfl)))))), ?_⟩
  have Bt' := Bt
  obtain ⟨dx0, kt, ft, ut, ks', fs', us', hx, _⟩ := Bt'
  refine ⟨.ref x, rfl, x, dx0, _, rfl, hx, lkn _ _ _ _ (by decide +kernel) (by decide +kernel) (by decide +kernel) (by decide +kernel), y, rfl, x, y, ks, fs, us, root, rfl, Bt, ok, ?_⟩
  rcases q with ⟨z, rfl, hz, q⟩ | ⟨hbad, q⟩
  ·refine .inl ⟨z, rfl, hz, fun fds p1 H1 hf hsh s1 n1 e1 => ?_⟩
   have bad : (∀ d H', Same H H' → H d = none → H' d = some (.xd [("field", u), ("base", .str z)]) → E (.ref CF) (some d) H') → ∀ a, H1 a = none → spNF CF ([.ref a, .str z, u]) (upd H1 a (exo a CF none)) (fun v H2 => v = .non ∧ ∃ (d : Addr) (fs : List (Str × V)), H2 a = some (exo a CF (some d)) ∧ H2 d = some (exd d fs) ∧ H1 d = none ∧ E (.ref CF) (some d) (upd (del H2 a) d (.xd fs))) E0 := by
    intro k a na
    refine ⟨a, .str z, u, rfl, upd_same, fun d H2 nd nda ha hd rest => ⟨rfl, d, _, ha, hd, ?_, ?_⟩⟩
    ·rw [upd_ne nda] at nd
     exact nd
    ·rw [upd_ne nda] at nd
     refine k d _ (fun b o e => ?_) (s1.free nd) upd_same
     have eb := s1 _ _ e
     have nbd : b ≠ d := ne_of_none eb nd
     have nba : b ≠ a := ne_of_none eb na
     rw [upd_ne nbd, del_ne nba, rest b nba nbd, upd_ne nba]
     exact eb
   rcases q fds hf with ⟨g, rfl, ⟨fl, fm, rfl, q1⟩ | ⟨ng, q2⟩⟩ | ⟨⟨t, ht, hk⟩, q3⟩
   ·have hv : valV (fkv fds) (Sum.inr fl.1) = some fl.2.1 := valV_map (f := fun f : Fld => f.1) (g := fun f => f.2.1) (hf.nd ok) fm
    refine ⟨.str fl.1, rfl, .ref p1, rfl, .str fl.1, p1, rfl, .inl ⟨fl.1, rfl, .inr ⟨fkv fds, .inl e1, ?_⟩⟩⟩
    rw [hv]
    exact ⟨true, rfl, iteF ⟨.ref p1, rfl, .str fl.1, rfl, p1, _, rfl, .inl ⟨fkv fds, .inr fl.1, .inl e1, rfl, hv.symm⟩, q1 H1 s1 (hsh fl fm)⟩⟩
   ·have hv : valV (fkv fds) (Sum.inr g) = none := valV_out (f := fun f : Fld => f.1) (g := fun f => f.2.1) ng
    refine ⟨.str g, rfl, .ref p1, rfl, .str g, p1, rfl, .inl ⟨g, rfl, .inr ⟨fkv fds, .inl e1, ?_⟩⟩⟩
    rw [hv]
    exact ⟨false, rfl, iteT ⟨.str z, rfl, .str g, rfl, by show 2 ≤ 1000; decide, bad q2⟩⟩
   ·exact ⟨u, rfl, .ref p1, rfl, u, p1, rfl, .inr ⟨t, ht H1 s1, hk, false, rfl, iteT ⟨.str z, rfl, u, rfl, by show 2 ≤ 1000; decide, bad q3⟩⟩⟩
  ·exact .inr ⟨hbad, q⟩
end
end NW
namespace NW
open PySem PySem.Spec PyProof.Rows L2
open TL (tl)
open StX (pa_star)
abbrev s_is_sure : Stmt := topS 19
abbrev N_is_sure : List Str := ["shape"]
theorem sc_is_sure : FnScope N_is_sure ["shape"] (defScope s_is_sure) := ⟨rfl, rfl, rfl, by decide +kernel, rfl, by decide +kernel, by decide +kernel⟩
def Shp.tgt : Shp → Str
 | .base z => z
 | .sure s => s.tgt
 | .list s => s.tgt
def Shp.dep : Shp → Nat
 | .base _ => 0
 | .sure s => s.dep + 1
 | .list s => s.dep + 1
theorem okS_dep {l : List Str} : ∀ {s : Shp} {n : Nat} {o : Bool}, okS l n o s → s.dep ≤ n := by
 intro s
 induction s with
 | base z => intro n o _; exact Nat.zero_le _
 | sure s ih =>
  intro n o h
  cases n with
  | zero => exact h.elim
  | succ n => exact Nat.succ_le_succ (ih h.2)
 | list s ih =>
  intro n o h
  cases n with
  | zero => exact h.elim
  | succ n => exact Nat.succ_le_succ (ih (show okS l n false s from h))
section
variable {P : Program} {w : World} {K : PySem.W.Frag} {mg : Str → Option Value} {base : Heap}

def spIsSure : Sp := fun vs H Q _ => ∃ (v : V) (s : Shp), vs = [v] ∧ ShAt H v s ∧ Q (.bl s.isSure) H
theorem ok_is_sure {f : Addr} {fd : FuncData} (D : Df K mg "is_sure" s_is_sure f fd ["shape"]) (T : Nms mg) : FnOk P w K mg base CX0 1 f fd ["shape"] spIsSure := by
 refine D.F.ok sc_is_sure (fun vs H Q E h => ?_) (fun cdv A outer s H vs Q E hr h => ?_)
 ·obtain ⟨v, s, rfl, _⟩ := h
  rfl
 ·obtain ⟨v, s, rfl, hv, q⟩ := h
  refine ⟨_, (pss_one (ps_ret (pe_and (pe_callB call_isi (by rfl) T.n_isinstance (by decide +kernel) (pa_cons (pv 0) (pa_cons (pe_bltn (v := .ty "tuple") (by rfl) T.n_tuple (by decide +kernel) rfl) pa_nil))) (pe_one (pe_cmpR op_eq (pe_ix ix_tup (pv 0) pe_int (fun _ _ => rfl)) pe_str (nomark _)))))), ?_⟩
  cases s with
  | base z =>
   obtain rfl : v = .str z := hv
   exact ⟨.str z, rfl, _, _, _, _, false, rfl, .ty "tuple", .base (.str z), kit_ty (by decide +kernel), false, rfl, iteF q⟩
  | sure s' =>
   obtain ⟨a, u, rfl, ha, hu⟩ := (show ∃ a u, v = .ref a ∧ H a = some (.tup [.str "sure", u]) ∧ ShAt H u s' from hv)
   refine ⟨.ref a, rfl, _, _, _, _, true, rfl, .ty "tuple", .base (.tup ha), kit_ty (by decide +kernel), true, rfl, iteT ⟨.ref a, rfl, a, _, 0, _, rfl, rfl, .inl (.inl ha), atI_nat (j := 0) rfl, rfl, ?_⟩⟩
   rw [decide_eq_true rfl]
   exact q
  | list s' =>
   obtain ⟨a, u, rfl, ha, hu⟩ := (show ∃ a u, v = .ref a ∧ H a = some (.tup [.str "list", u]) ∧ ShAt H u s' from hv)
   refine ⟨.ref a, rfl, _, _, _, _, true, rfl, .ty "tuple", .base (.tup ha), kit_ty (by decide +kernel), true, rfl, iteT ⟨.ref a, rfl, a, _, 0, _, rfl, rfl, .inl (.inl ha), atI_nat (j := 0) rfl, rfl, ?_⟩⟩
   rw [decide_eq_false list_sure]
   exact q
end
end NW
namespace NW
open PySem PySem.Spec PyProof.Rows L2
open TL (tl)
open StX (pa_star)
section
variable {P : Program} {w : World} {K : PySem.W.Frag} {mg : Str → Option Value} {base : Heap}

theorem FdsOf.ok {ks : List KRow} {fs : List FRow} {us : List URow} {root z : Str} {fds : List Fld} {fl : Fld} (ok : SchOk ks fs us root) (h : FdsOf ks fs z fds) (m : fl ∈ fds) : okS (bsOf ks fs us) 4 false fl.2.2 := by
 rcases h with ⟨k, mk, _, rfl⟩ | ⟨_, f, mf, _, rfl⟩ | ⟨_, _, rfl⟩
 ·exact (ok.kd k mk).sh fl m
 ·exact (ok.fd f mf).sh fl m
 ·cases m
end
end NW
namespace NW
open PySem PySem.Spec PyProof.Rows L2
inductive St where
 | field (f key : Str) (rows : List St)
 | kind (key : Str)
 | on (base : Str) (rows : List St)
 | part (name : Str)
 | iff (flag : Str) (want : Bool) (rows : List St)
mutual
inductive StAt (H : Hp) : V → St → Prop
 | field {a : Addr} {f k : Str} {r : V} {rows : List St} : H a = some (.tup [.str "field", .str f, .str k, r]) → RowAt H r rows → StAt H (.ref a) (.field f k rows)
 | kind {a : Addr} {k : Str} : H a = some (.tup [.str "kind", .str k]) → StAt H (.ref a) (.kind k)
 | on {a : Addr} {z : Str} {r : V} {rows : List St} : H a = some (.tup [.str "on", .str z, r]) → RowAt H r rows → StAt H (.ref a) (.on z rows)
 | part {a : Addr} {z : Str} : H a = some (.tup [.str "part", .str z]) → StAt H (.ref a) (.part z)
 | iff {a : Addr} {z : Str} {b : Bool} {r : V} {rows : List St} : H a = some (.tup [.str "if", .str z, .bl b, r]) → RowAt H r rows → StAt H (.ref a) (.iff z b rows)
inductive RowAt (H : Hp) : V → List St → Prop
 | mk {a : Addr} {vs : List V} {rows : List St} : H a = some (.tup vs) → AllAt H vs rows → RowAt H (.ref a) rows
inductive AllAt (H : Hp) : List V → List St → Prop
 | nil : AllAt H [] []
 | cons {v : V} {vs : List V} {s : St} {rows : List St} : StAt H v s → AllAt H vs rows → AllAt H (v :: vs) (s :: rows)
end
mutual
theorem StAt.same {H H' : Hp} (s : Same H H') : ∀ {v : V} {t : St}, StAt H v t → StAt H' v t
 | _, _, .field e r => .field (s _ _ e) (r.same s)
 | _, _, .kind e => .kind (s _ _ e)
 | _, _, .on e r => .on (s _ _ e) (r.same s)
 | _, _, .part e => .part (s _ _ e)
 | _, _, .iff e r => .iff (s _ _ e) (r.same s)
theorem RowAt.same {H H' : Hp} (s : Same H H') : ∀ {v : V} {t : List St}, RowAt H v t → RowAt H' v t
 | _, _, .mk e r => .mk (s _ _ e) (r.same s)
theorem AllAt.same {H H' : Hp} (s : Same H H') : ∀ {v : List V} {t : List St}, AllAt H v t → AllAt H' v t
 | _, _, .nil => .nil
 | _, _, .cons h t => .cons (h.same s) (t.same s)
end
mutual
theorem StAt.grO {H H' : Hp} {b : Addr} (hO : Oth H b) (g : Gr b H H') : ∀ {v : V} {t : St}, StAt H v t → StAt H' v t
 | _, _, .field e r => .field (g _ _ (hO.net e) e) (r.grO hO g)
 | _, _, .kind e => .kind (g _ _ (hO.net e) e)
 | _, _, .on e r => .on (g _ _ (hO.net e) e) (r.grO hO g)
 | _, _, .part e => .part (g _ _ (hO.net e) e)
 | _, _, .iff e r => .iff (g _ _ (hO.net e) e) (r.grO hO g)
theorem RowAt.grO {H H' : Hp} {b : Addr} (hO : Oth H b) (g : Gr b H H') : ∀ {v : V} {t : List St}, RowAt H v t → RowAt H' v t
 | _, _, .mk e r => .mk (g _ _ (hO.net e) e) (r.grO hO g)
theorem AllAt.grO {H H' : Hp} {b : Addr} (hO : Oth H b) (g : Gr b H H') : ∀ {v : List V} {t : List St}, AllAt H v t → AllAt H' v t
 | _, _, .nil => .nil
 | _, _, .cons h t => .cons (h.grO hO g) (t.grO hO g)
end
theorem AllAt.get {H : Hp} : ∀ {vs : List V} {rows : List St} {i : Nat} {s : St}, AllAt H vs rows → rows[i]? = some s → ∃ v, vs[i]? = some v ∧ StAt H v s
 | _, _, _, _, .nil, e => by simp at e
 | _, _, 0, _, .cons (v := v) h _, e => by
  simp only [List.getElem?_cons_zero] at e
  cases e
  exact ⟨v, rfl, h⟩
 | _, _, i + 1, _, .cons _ t, e => by
  simp only [List.getElem?_cons_succ] at e
  obtain ⟨v, h1, h2⟩ := t.get e
  exact ⟨v, by rw [List.getElem?_cons_succ]; exact h1, h2⟩
end NW
namespace NW
open PySem PySem.Spec PyProof.Rows L2
open TL (tl)
open StX (pa_star)
end NW
namespace NW
open PySem PySem.Spec PyProof.Rows L2
open TL (tl)
open StX (pa_star)
def ItemAt (H : Hp) (v : V) (pl : List Key) (z : Str) (t : St) : Prop := ∃ a p s, v = .ref a ∧ H a = some (.tup [.ref p, .str z, s]) ∧ H p = some (.tup (pl.map kV)) ∧ StAt H s t
end NW
namespace NW
open PySem PySem.Spec PyProof.Rows L2
open TL (tl)
open StX (pa_star)

end NW
namespace NW
open PySem PySem.Spec PyProof.Rows L2
end NW
namespace NW
open PySem PySem.Spec PyProof.Rows L2
open TL (tl)
open StX (pa_star)
theorem passA {X : Cx} : Passes (L2N.CX X.prog X.w) X E0 := fun _ _ _ _ _ _ I c => by
 obtain ⟨_, _, _, _, _, _, _, _, _, _, _, _, _, _, _, _, z⟩ := L2N.XE.of_call (W := fun _ _ _ _ => False) I (fun _ _ _ e => e) c
 exact z.elim
end NW
namespace NW
open PySem PySem.Spec PyProof.Rows L2
open TL (tl)
open StX (pa_star)
end NW
namespace NW
open PySem PySem.Spec PyProof.Rows L2
open TL (tl)
open StX (pa_star)
end NW
namespace NW
open PySem PySem.Spec PyProof.Rows L2
open TL (tl)
open StX (pa_star)
end NW
namespace NW
open PySem PySem.Spec PyProof.Rows L2
end NW
namespace NW
open PySem PySem.Spec PyProof.Rows L2
end NW
namespace NW
open PySem PySem.Spec PyProof.Rows L2
open TL (tl)
end NW
namespace NW
open PySem PySem.Spec PyProof.Rows L2
open TL (tl)
open StX (pa_star)
def wd : St → Str
 | .field _ _ _ => "field"
 | .kind _ => "kind"
 | .on _ _ => "on"
 | .part _ => "part"
 | .iff _ _ _ => "if"
mutual
def htS (hp : Str → Nat) : St → Nat
 | .field _ _ r => 1 + htR hp r
 | .kind _ => 1
 | .on _ r => 1 + htR hp r
 | .part p => 1 + hp p
 | .iff _ _ r => 1 + htR hp r
def htR (hp : Str → Nat) : List St → Nat
 | [] => 0
 | s :: r => max (htS hp s) (htR hp r)
end
mutual
def lvS : St → Nat
 | .field _ _ r => 1 + lvR r
 | .kind _ => 1
 | .on _ r => 1 + lvR r
 | .part _ => 1
 | .iff _ _ r => 1 + lvR r
def lvR : List St → Nat
 | [] => 0
 | s :: r => max (lvS s) (lvR r)
end
end NW
namespace NW
open PySem PySem.Spec PyProof.Rows L2
open TL (tl)
open StX (pa_star)

end NW
namespace NW
open PySem PySem.Spec PyProof.Rows L2
open TL (tl)
open StX (pa_star)
structure PRow where
 nm : Str
 t : Addr
 z : Str
 r : V
 rows : List St
def ptv (ps : List PRow) : List (Key × V) := ps.map fun p => ((Sum.inr p.nm : Key), V.ref p.t)
def PRow.At (H : Hp) (p : PRow) : Prop := H p.t = some (.tup [.str p.z, p.r]) ∧ RowAt H p.r p.rows
theorem PRow.At.same {H H' : Hp} {p : PRow} (s : Same H H') (h : p.At H) : p.At H' := ⟨s _ _ h.1, h.2.same s⟩
theorem PRow.At.grO {H H' : Hp} {b : Addr} {p : PRow} (hO : Oth H b) (g : Gr b H H') (h : p.At H) : p.At H' := ⟨g _ _ (hO.net h.1) h.1, h.2.grO hO g⟩
def htv (ps : List PRow) (h : Str → Nat) : List (Key × V) := ps.map fun p => ((Sum.inr p.nm : Key), V.int ((h p.nm : Nat) : Int))
end NW
namespace NW
open PySem PySem.Spec PyProof.Rows L2
open TL (tl)
open StX (pa_star)

def Tk (H H' : Hp) : Prop := ∀ a xs, H a = some (.tup xs) → H' a = some (.tup xs)
theorem Same.tk {H H' : Hp} (s : Same H H') : Tk H H' := fun _ _ e => s _ _ e
theorem Tk.upd {H : Hp} {a : Addr} {o o' : HO} (e : H a = some o) (n : ∀ xs, o ≠ .tup xs) : Tk H (upd H a o') := fun b xs h => by rw [upd_ne (ne_of h e fun z => n _ z.symm)]; exact h
theorem Tk.trans {H1 H2 H3 : Hp} (x : Tk H1 H2) (y : Tk H2 H3) : Tk H1 H3 := fun a xs e => y a xs (x a xs e)
mutual
theorem StAt.tk {H H' : Hp} (k : Tk H H') : ∀ {v : V} {t : St}, StAt H v t → StAt H' v t
 | _, _, .field e r => .field (k _ _ e) (r.tk k)
 | _, _, .kind e => .kind (k _ _ e)
 | _, _, .on e r => .on (k _ _ e) (r.tk k)
 | _, _, .part e => .part (k _ _ e)
 | _, _, .iff e r => .iff (k _ _ e) (r.tk k)
theorem RowAt.tk {H H' : Hp} (k : Tk H H') : ∀ {v : V} {t : List St}, RowAt H v t → RowAt H' v t
 | _, _, .mk e r => .mk (k _ _ e) (r.tk k)
theorem AllAt.tk {H H' : Hp} (k : Tk H H') : ∀ {v : List V} {t : List St}, AllAt H v t → AllAt H' v t
 | _, _, .nil => .nil
 | _, _, .cons h t => .cons (h.tk k) (t.tk k)
end
theorem PRow.At.tk {H H' : Hp} {p : PRow} (k : Tk H H') (h : p.At H) : p.At H' := ⟨k _ _ h.1, h.2.tk k⟩
end NW
namespace NW
open PySem PySem.Spec PyProof.Rows L2
open TL (tl)
open StX (pa_star)
structure Itm where
 pl : List Key
 z : Str
 t : St
def ItmAt (H : Hp) (v : V) (i : Itm) : Prop := ItemAt H v i.pl i.z i.t
def ItsAt (H : Hp) (xs : List V) (its : List Itm) : Prop := xs.length = its.length ∧ ∀ (k : Nat) v, xs[k]? = some v → ∃ i, its[k]? = some i ∧ ItmAt H v i
theorem ItmAt.tk {H H' : Hp} {v : V} {i : Itm} (k : Tk H H') (h : ItmAt H v i) : ItmAt H' v i := by
 obtain ⟨a, p, s, e, h1, h2, h3⟩ := h
 exact ⟨a, p, s, e, k _ _ h1, k _ _ h2, h3.tk k⟩
theorem ItsAt.tk {H H' : Hp} {xs : List V} {its : List Itm} (k : Tk H H') (h : ItsAt H xs its) : ItsAt H' xs its := ⟨h.1, fun j v e => by
 obtain ⟨i, ei, hi⟩ := h.2 j v e
 exact ⟨i, ei, hi.tk k⟩⟩
end NW
namespace NW
open PySem PySem.Spec PyProof.Rows L2
open TL (tl)
open StX (pa_star)

end NW
namespace NW
open PySem PySem.Spec PyProof.Rows L2
open TL (tl)
open StX (pa_star)
def fdsAt (ks : List KRow) (fs : List FRow) (z : Str) : List Fld := match ks.find? fun k => decide (k.nm = z) with
 | some k => k.fds
 | none => match fs.find? fun k => decide (k.nm = z) with | some k => k.fds | none => []
def ibF (ks : List KRow) (fs : List FRow) (z f : Str) : Str := match (fdsAt ks fs z).find? fun fl => decide (fl.1 = f) with | some fl => fl.2.2.tgt | none => z
theorem find_is {α : Type} {f : α → Str} : ∀ {l : List α} {a : α}, (l.map f).Nodup → a ∈ l → l.find? (fun x => decide (f x = f a)) = some a
 | x :: r, a, nd, m => by
  have nd' : f x ∉ r.map f ∧ (r.map f).Nodup := List.nodup_cons.mp nd
  rcases List.mem_cons.mp m with rfl | m
  ·rw [List.find?_cons_of_pos (by simp)]
  ·have : ¬ f x = f a := fun e => nd'.1 (List.mem_map.mpr ⟨a, m, e.symm⟩)
   rw [List.find?_cons_of_neg (by simpa using this)]
   exact find_is nd'.2 m
theorem find_no {α : Type} {f : α → Str} {l : List α} {z : Str} (h : z ∉ l.map f) : l.find? (fun x => decide (f x = z)) = none := List.find?_eq_none.mpr fun x m e => h (List.mem_map.mpr ⟨x, m, of_decide_eq_true e⟩)
theorem fds_eq {ks : List KRow} {fs : List FRow} {us : List URow} {root z : Str} (ok : SchOk ks fs us root) {fds : List Fld} (h : FdsOf ks fs z fds) : fds = fdsAt ks fs z := by
 unfold fdsAt
 rcases h with ⟨k, mk, rfl, rfl⟩ | ⟨n, f, mf, rfl, rfl⟩ | ⟨n1, n2, rfl⟩
 ·rw [find_is (f := fun k : KRow => k.nm) ok.ndk mk]
 ·rw [find_no (f := fun k : KRow => k.nm) n, find_is (f := fun k : FRow => k.nm) ok.ndf mf]
 ·rw [find_no (f := fun k : KRow => k.nm) n1, find_no (f := fun k : FRow => k.nm) n2]
theorem fds_ex {ks : List KRow} {fs : List FRow} {z : Str} : FdsOf ks fs z (fdsAt ks fs z) := by
 unfold fdsAt
 cases h : ks.find? fun k => decide (k.nm = z) with
 | some k => exact .inl ⟨k, List.mem_of_find?_eq_some h, (by have := List.find?_some h; simpa using this), rfl⟩
 | none =>
  have n1 : z ∉ ks.map (·.nm) := fun m => by
   obtain ⟨k, mk, e⟩ := List.mem_map.mp m
   exact absurd (decide_eq_true e) (List.find?_eq_none.mp h k mk)
  cases h2 : fs.find? fun k => decide (k.nm = z) with
  | some k => exact .inr (.inl ⟨n1, k, List.mem_of_find?_eq_some h2, (by have := List.find?_some h2; simpa using this), rfl⟩)
  | none => exact .inr (.inr ⟨n1, fun m => by
    obtain ⟨k, mk, e⟩ := List.mem_map.mp m
    exact absurd (decide_eq_true e) (List.find?_eq_none.mp h2 k mk), rfl⟩)
mutual
def fitS (ks : List KRow) (fs : List FRow) (bs : List Str) (D : Str → Prop) (z : Str) : St → Prop
 | .field f k r => r.length ≤ 6 ∧ IsName k ∧ (∃ fl ∈ fdsAt ks fs z, fl.1 = f ∧ (r = [] ∨ fl.2.2.tgt ∉ [("number" : Str), ("text" : Str)])) ∧ fitR ks fs bs D (ibF ks fs z f) r
 | .kind k => IsName k
 | .on b r => b ∈ bs ∧ b ∉ [("number" : Str), ("text" : Str)] ∧ r.length ≤ 6 ∧ fitR ks fs bs D b r
 | .part p => D p
 | .iff f _ r => IsName f ∧ r.length ≤ 6 ∧ fitR ks fs bs D z r
def fitR (ks : List KRow) (fs : List FRow) (bs : List Str) (D : Str → Prop) (z : Str) : List St → Prop
 | [] => True
 | s :: r => fitS ks fs bs D z s ∧ fitR ks fs bs D z r
end
mutual
def prS (ks : List KRow) (fs : List FRow) (pl : List Key) (z : Str) : St → List Itm
 | .field f _ r => prR ks fs pl (ibF ks fs z f) 0 r
 | .kind _ => []
 | .on b r => prR ks fs pl b 0 r
 | .part _ => []
 | .iff _ _ r => prR ks fs pl z 0 r
def prR (ks : List KRow) (fs : List FRow) (pl : List Key) (z : Str) (k : Nat) : List St → List Itm
 | [] => []
 | s :: r => ⟨pl ++ [Sum.inl (k : Int)], z, s⟩ :: (prS ks fs (pl ++ [Sum.inl (k : Int)]) z s ++ prR ks fs pl z (k + 1) r)
end
end NW
namespace NW
open PySem PySem.Spec PyProof.Rows L2
open TL (tl)
open StX (pa_star)
end NW
namespace NW
open PySem PySem.Spec PyProof.Rows L2
open TL (tl)
open StX (pa_star)
open Classical in
noncomputable def srt (l : List Str) : List Str := if h : ∃ ys : List Str, ys.Perm l ∧ sortedS ys = true then choose h else []
theorem srt_eq {l ys : List Str} (p : ys.Perm l) (s : sortedS ys = true) : srt l = ys := by
 have h : ∃ ys : List Str, ys.Perm l ∧ sortedS ys = true := ⟨ys, p, s⟩
 unfold srt
 rw [dif_pos h]
 obtain ⟨a, b⟩ := Classical.choose_spec h
 exact sorted_one b s (a.trans p.symm)
def CanS (l : List Str) : Prop := ∃ ys : List Str, ys.Perm l ∧ sortedS ys = true
theorem CanS.p {l : List Str} (h : CanS l) : (srt l).Perm l := by
 obtain ⟨ys, p, s⟩ := h
 rw [srt_eq p s]
 exact p
theorem lt_asym : ∀ {a b : List Nat}, ltCps a b = true → ltCps b a = false
 | [], [], h => by cases h
 | [], _ :: _, _ => rfl
 | _ :: _, [], h => by cases h
 | x :: a, y :: b, h => by
  simp only [ltCps, Bool.or_eq_true, Bool.and_eq_true, decide_eq_true_eq, beq_iff_eq] at h
  simp only [ltCps, Bool.or_eq_false_iff, decide_eq_false_iff_not, Bool.and_eq_false_iff, beq_eq_false_iff_ne]
  rcases h with h | ⟨e, h⟩
  ·exact ⟨by omega, .inl (by omega)⟩
  ·exact ⟨by omega, .inr (lt_asym h)⟩
theorem can_all (l : List Str) : CanS l := by
 refine ⟨l.mergeSort (fun a b => !ltCps (tl b) (tl a)), List.mergeSort_perm l _, sortedS_of_pairwise _ ?_⟩
 refine (List.pairwise_mergeSort (le := fun a b => !ltCps (tl b) (tl a)) (fun a b c h1 h2 => ?_) (fun a b => ?_) l).imp fun {a b} h => by simpa using h
 ·simp only [Bool.not_eq_true'] at h1 h2 ⊢
  exact lt_trans' h1 h2
 ·cases h : ltCps (tl b) (tl a)
  ·rfl
  ·rw [lt_asym h]
   rfl
theorem srt_perm (l : List Str) : (srt l).Perm l := (can_all l).p
def pItems (ks : List KRow) (fs : List FRow) (ps : List PRow) (n : Str) : List Itm := match ps.find? fun p => decide (p.nm = n) with | some p => prR ks fs [Sum.inr n] p.z 0 p.rows | none => []
noncomputable def allItems (ks : List KRow) (fs : List FRow) (ps : List PRow) (root : Str) (rows : List St) : List Itm := prR ks fs [] root 0 rows ++ (srt (ps.map (·.nm))).flatMap (pItems ks fs ps)
end NW
namespace NW
open PySem PySem.Spec PyProof.Rows L2
open TL (tl)
open StX (pa_star)

end NW
namespace NW
open PySem PySem.Spec PyProof.Rows L2
end NW
namespace NW
open PySem PySem.Spec PyProof.Rows L2
end NW
namespace NW
open PySem PySem.Spec PyProof.Rows L2
open TL (tl)
open StX (pa_star)
abbrev s_Ltarget : Stmt := topS 65
abbrev N_Ltarget : List Str := ["_law_shape_here", "_law_k"]
theorem sc_Ltarget : FnScope N_Ltarget ["_law_shape_here"] (defScope s_Ltarget) := ⟨rfl, rfl, rfl, by decide +kernel, rfl, by decide +kernel, by decide +kernel⟩
section
variable {P : Program} {w : World} {K : PySem.W.Frag} {mg : Str → Option Value} {base : Heap}

def spLtarget : Sp := fun vs H Q _ => ∃ (v : V) (s : Shp), vs = [v] ∧ ShAt H v s ∧ s.dep ≤ 4 ∧ Q (.str s.tgt) H
theorem ok_Ltarget {f : Addr} {fd : FuncData} (D : Df K mg "_law_target" s_Ltarget f fd ["_law_shape_here"]) (T : Nms mg) : FnOk P w K mg base CX0 1 f fd ["_law_shape_here"] spLtarget := by
 refine D.F.ok sc_Ltarget (fun vs H Q E h => ?_) (fun cdv A outer s H vs Q E hr h => ?_)
 ·obtain ⟨v, s, rfl, _⟩ := h
  rfl
 ·obtain ⟨v, s, rfl, hv, hd, q⟩ := h
  refine ⟨_, (pss_cons (ps_for PassesOwn.never rfl (pi_range1 (by rfl) T.n_range (pa_cons pe_int pa_nil)) (pg_name (i := 1) sc_Ltarget.nd rfl (.inl rfl))
    (pss_one (ps_if (pt_not (pt_val (pe_callB call_isi (by rfl) T.n_isinstance (by decide +kernel) (pa_cons (pv 0) (pa_cons (pe_bltn (v := .ty "str") (by rfl) T.n_str (by decide +kernel) rfl) pa_nil)))))
     (pss_one (ps_set (i := 0) sc_Ltarget.nd rfl (.inl rfl) (pe_ix ix_tup (pv 0) pe_int (fun _ _ => rfl))))
     pss_nil)))
   (pss_one (ps_ret (pv 0)))), ?_⟩
  refine ⟨4, rfl, by decide, by decide, for_range (lo := 0) (n := 4) (fun i σ H' => ∃ (v' : V) (s' : Shp) (y : Option V), σ = [some v', y] ∧ H' = H ∧ ShAt H v' s' ∧ s'.tgt = s.tgt ∧ s'.dep + i ≤ 4) ⟨v, s, none, rfl, rfl, hv, rfl, hd⟩ ?_ ?_⟩
  ·rintro i σ H' hi ⟨v', s', y, rfl, rfl, hv', ht, hd'⟩
   cases s' with
   | base z =>
    obtain rfl : v' = .str z := hv'
    exact ⟨.str z, rfl, _, _, _, _, true, rfl, .ty "str", .base (.str z), kit_ty (by decide +kernel), true, rfl, iteF ⟨.str z, .base z, _, rfl, rfl, rfl, ht, by show 0 + (i + 1) ≤ 4; omega⟩⟩
   | sure s' =>
    obtain ⟨a, u, rfl, ha, hu⟩ := (show ∃ a u, v' = .ref a ∧ H' a = some (.tup [.str "sure", u]) ∧ ShAt H' u s' from hv')
    exact ⟨.ref a, rfl, _, _, _, _, false, rfl, .ty "str", .base (.tup ha), kit_ty (by decide +kernel), false, rfl, iteT ⟨.ref a, rfl, a, _, 1, _, rfl, rfl, .inl (.inl ha), atI_nat (j := 1) rfl, u, s', _, rfl, rfl, hu, ht, by have : s'.dep + 1 + i ≤ 4 := hd'; omega⟩⟩
   | list s' =>
    obtain ⟨a, u, rfl, ha, hu⟩ := (show ∃ a u, v' = .ref a ∧ H' a = some (.tup [.str "list", u]) ∧ ShAt H' u s' from hv')
    exact ⟨.ref a, rfl, _, _, _, _, false, rfl, .ty "str", .base (.tup ha), kit_ty (by decide +kernel), false, rfl, iteT ⟨.ref a, rfl, a, _, 1, _, rfl, rfl, .inl (.inl ha), atI_nat (j := 1) rfl, u, s', _, rfl, rfl, hu, ht, by have : s'.dep + 1 + i ≤ 4 := hd'; omega⟩⟩
  ·rintro σ H' ⟨v', s', y, rfl, rfl, hv', ht, hd'⟩
   cases s' with
   | base z =>
    obtain rfl : v' = .str z := hv'
    obtain rfl : z = s.tgt := ht
    exact ⟨.str _, rfl, q⟩
   | sure s' => exact absurd hd' (by show ¬ (s'.dep + 1 + 4 ≤ 4); omega)
   | list s' => exact absurd hd' (by show ¬ (s'.dep + 1 + 4 ≤ 4); omega)
end
end NW
namespace NW
open PySem PySem.Spec PyProof.Rows L2
open TL (tl)
open StX (pa_star)
abbrev s_Lmembers : Stmt := topS 64
abbrev N_Lmembers : List Str := ["_law_schema_here", "_law_base", "_law_kind_here"]
theorem sc_Lmembers : FnScope N_Lmembers ["_law_schema_here", "_law_base"] (defScope s_Lmembers) := ⟨rfl, rfl, rfl, by decide +kernel, rfl, by decide +kernel, by decide +kernel⟩
abbrev s_Schema_members : Stmt := inClass (topS 56) 7
abbrev N_Schema_members : List Str := ["self", "base", "kind"]
theorem sc_Schema_members : FnScope N_Schema_members ["self", "base"] (defScope s_Schema_members) := ⟨rfl, rfl, rfl, by decide +kernel, rfl, by decide +kernel, by decide +kernel⟩
theorem pe_fldK {X : Cx} (K : PySem.W.Frag) {e : Expr} {f : Str} {ta : TE} {pos : Pos} (he : PE X e ta) (hb : attributeBase e f X.env (eval e X.env) = eval e X.env) (h : X.K = K := by rfl) : PE X (.Attribute e f pos) (tFld K ta f) := h ▸ pe_fld he hb
section
variable {P : Program} {w : World} {K : PySem.W.Frag} {mg : Str → Option Value} {base : Heap}

def spLmembers : Sp := fun vs H Q _ => ∃ (q kt ft ut : Addr) (ks : List KRow) (fs : List FRow) (us : List URow) (root z : Str), vs = [.ref q, .str z] ∧ SchT H q kt ft ut ks fs us root ∧
 ∀ (l : List Str) p H', MemL ks us z l → Same H H' → H p = none → H' p = some (.lst (l.map V.str)) → Q (.ref p) H'
theorem ok_Lmembers {f : Addr} {fd : FuncData} (D : Df K mg "_law_members" s_Lmembers f fd ["_law_schema_here", "_law_base"]) (T : Nms mg) : FnOk P w K mg base CX0 1 f fd ["_law_schema_here", "_law_base"] spLmembers := by
 refine D.F.ok sc_Lmembers (fun vs H Q E h => ?_) (fun cdv A outer s H vs Q E hr h => ?_)
 ·obtain ⟨q, kt, ft, ut, ks, fs, us, root, z, rfl, _⟩ := h
  rfl
 ·obtain ⟨q, kt, ft, ut, ks, fs, us, root, z, rfl, ⟨hq, S, ok⟩, k⟩ := h
  have hu := hu_of hr
  refine ⟨_, (pss_cons (ps_if (pt_cmp (pc_din hu (pv 1) (pe_ix (ix_tupK K) (pv 0) pe_int (fun _ _ => rfl))) rfl)
    (pss_one (ps_ret (pe_lst (pa_cons (pv 1) pa_nil))))
    pss_nil)
   (pss_cons (ps_if (pt_cmp (pc_din hu (pv 1) (pe_ix (ix_tupK K) (pv 0) pe_int (fun _ _ => rfl))) rfl)
    (pss_one (ps_ret (pe_callB (call_sortedTup K) (by rfl) T.n_sorted (by decide +kernel) (pa_cons (pe_dget hu (pe_ix (ix_tupK K) (pv 0) pe_int (fun _ _ => rfl)) (pv 1) (fun _ _ => rfl)) pa_nil))))
    pss_nil)
   (pss_one (ps_ret (pe_callB cr_sortedS (by rfl) T.n_sorted (by decide +kernel) (pa_cons (pe_lock (pe_lc (own := [("_law_kind_here", 2)]) (g := (gName 2)) rfl sc_Lmembers.nd (pi_keys (pe_ix (ix_tupK K) (pv 0) pe_int (fun _ _ => rfl))) (blkOk_by (own := [("_law_kind_here", 2)]) (N := N_Lmembers) (sc := defScope s_Lmembers) (by decide +kernel)) (fun _ _ _ _ _ => (pg_name (i := 2) sc_Lmembers.nd rfl (.inl rfl))) (fun _ _ _ _ _ => pts_one (pt_cmpR (op_in_seqK K) (pv 1) (pe_ix (ix_tupK K) (pe_dget hu (pe_ix (ix_tupK K) (pv 0) pe_int (fun _ _ => rfl)) (pv 2) (fun _ _ => rfl)) pe_int (fun _ _ => rfl)) (by rfl))) (fun _ _ _ _ _ => (pv 2)))) pa_nil)))))), ?_⟩
  have k1 := ok.k1
  have u1 := ok.u1
  have hT : SqT K H q [.ref kt, .ref ft, .ref ut, .str root] := .inl (.inl hq)
  refine ⟨.str z, rfl, .ref q, rfl, q, _, 0, _, rfl, rfl, hT, atI_nat (j := 0) rfl, kt, _, rfl, .inl ⟨kkv ks, .inr z, .inl S.kd, rfl, rfl⟩, _, rfl, ?_⟩
  by_cases hk : z ∈ ks.map (·.nm)
  ·rw [kkv_some ok.ndk hk]
   exact iteT ⟨.str z, rfl, by show 1 ≤ sizeLine; decide, fun p np => k [z] p _ ⟨rfl, by show 1 ≤ 6; decide, .inl ⟨hk, rfl⟩⟩ (same_new np) np upd_same⟩
  ·have e0 : valV (kkv ks) (Sum.inr z) = none := valV_out (f := fun k : KRow => k.nm) (g := fun k => V.ref k.t) hk
   rw [e0]
   refine iteF ⟨.str z, rfl, .ref q, rfl, q, _, 2, _, rfl, rfl, hT, atI_nat (j := 2) rfl, ut, _, rfl, .inl ⟨ukv us, .inr z, .inl S.ud, rfl, rfl⟩, _, rfl, ?_⟩
   by_cases hu' : z ∈ us.map (·.nm)
   ·obtain ⟨u, um, rfl⟩ := List.mem_map.mp hu'
    rw [ukv_val ok.ndu um]
    obtain ⟨_, _, n3, _⟩ := ok.ud u um
    refine iteT ⟨.ref q, rfl, q, _, 2, _, rfl, rfl, hT, atI_nat (j := 2) rfl, .str u.nm, rfl, ut, _, rfl, .inl ⟨ukv us, .inr u.nm, .inl S.ud, rfl, (ukv_val ok.ndu um).symm⟩, u.t, u.ms, rfl, .inl (.inl (S.ua u um)), by omega, fun ys p pm so np => k ys p _ ⟨so, by rw [pm.length_eq]; omega, .inr (.inl ⟨hk, u, um, rfl, pm⟩)⟩ (same_new np) np upd_same⟩
   ·have e1 : valV (ukv us) (Sum.inr z) = none := valV_out (f := fun k : URow => k.nm) (g := fun k => V.ref k.t) hu'
    rw [e1]
    refine iteF ⟨kt, .dK (kkv ks), S.kd, trivial, fun od => ⟨.ref q, rfl, q, _, 0, _, rfl, rfl, .inl (.inl (by rw [upd_ne (ne_of hq S.kd (by intro z; cases z))]; exact hq)), atI_nat (j := 0) rfl, kt, od, rfl, .inl ⟨kkv ks, upd_same, fun Da nD => ?_⟩⟩⟩
    have hkl : (kkv ks).length = ks.length := List.length_map ..
    refine lc_it walk_keys (fun i H' => Same (upd H kt (.frz od (.dK (kkv ks)))) H' ∧ H' Da = some (.lst (((ks.take i).filter fun k => decide (z ∈ k.fcs)).map fun k => V.str k.nm))) ⟨same_new nD, upd_same⟩ (fun i H _ p => p.1 _ _ upd_same) ?_ ?_
    ·rintro i x H2 H3 hi ⟨sm, e2⟩ ⟨rfl, kk, v, e, rfl⟩
     obtain ⟨r, er, rfl, rfl⟩ := kkv_at e
     have hm := List.mem_of_getElem? er
     have rk : Rd H3 kt (.dK (kkv ks)) := .inr ⟨od, sm _ _ upd_same⟩
     have hr' := S.ka r hm
     have hq3 : SqT K H3 q [.ref kt, .ref ft, .ref ut, .str root] := .inl (.inl (sm _ _ (by rw [upd_ne (ne_of hq S.kd (by intro z; cases z))]; exact hq)))
     have ht : SqT K H3 r.t [.ref r.fa, .ref r.da] := .inl (.inl (sm _ _ (by rw [upd_ne (ne_of hr'.t S.kd (by intro z; cases z))]; exact hr'.t)))
     have hfa : SqT K H3 r.fa (r.fcs.map V.str) := .inl (.inl (sm _ _ (by rw [upd_ne (ne_of hr'.f S.kd (by intro z; cases z))]; exact hr'.f)))
     have et : ks.take (i + 1) = ks.take i ++ [r] := by rw [List.take_add_one, er]; rfl
     refine ⟨rfl, .str z, rfl, .ref q, rfl, q, _, 0, _, rfl, rfl, hq3, atI_nat (j := 0) rfl, .str r.nm, rfl, kt, _, rfl, .inl ⟨kkv ks, .inr r.nm, rk, rfl, (kkv_val ok.ndk hm).symm⟩, r.t, _, 0, _, rfl, rfl, ht, atI_nat (j := 0) rfl, r.fa, _, rfl, .inr hfa, rfl, flat_map _, _, rfl, ?_⟩
     by_cases hin : z ∈ r.fcs
     ·show if (if false = true then !inV (.str z) (r.fcs.map V.str) else inV (.str z) (r.fcs.map V.str)) = true then _ else _
      rw [if_neg (show ¬ (false = true) by decide), inV_strs, decide_eq_true hin, if_pos rfl]
      refine ⟨.str r.nm, rfl, _, e2, ?_, same_upd sm nD, ?_⟩
      ·rw [List.length_map]
       have h1 := List.length_filter_le (fun k : KRow => decide (z ∈ k.fcs)) (ks.take i)
       have h2 := List.length_take_le i ks
       exact Nat.lt_of_le_of_lt (show _ ≤ 1000 by omega) (by decide)
      ·rw [upd_same, et, List.filter_append, List.map_append]
       rw [List.filter_cons_of_pos (by simpa using hin)]
       rfl
     ·show if (if false = true then !inV (.str z) (r.fcs.map V.str) else inV (.str z) (r.fcs.map V.str)) = true then _ else _
      rw [if_neg (show ¬ (false = true) by decide), inV_strs, decide_eq_false hin, if_neg (by decide)]
      refine ⟨sm, ?_⟩
      rw [et, List.filter_append, List.filter_cons_of_neg (by simpa using hin), List.filter_nil, List.append_nil]
      exact e2
    ·rintro H2 ⟨sm, e2⟩
     rw [hkl, List.take_length] at e2
     refine ⟨sm _ _ upd_same, ?_⟩
     have nDk : Da ≠ kt := fun z => by rw [z, upd_same] at nD; cases nD
     have s2 : Same H (upd H2 kt (.dK (kkv ks))) := same_unlock S.kd sm
     have e3 : (upd H2 kt (.dK (kkv ks))) Da = some (.lst (((ks.filter fun k => decide (z ∈ k.fcs)).map (·.nm)).map V.str)) := by
      rw [upd_ne nDk, e2, List.map_map]
      rfl
     have hle := List.length_filter_le (fun k : KRow => decide (z ∈ k.fcs)) ks
     refine ⟨Da, _, rfl, SqL.of e3, by rw [List.length_map]; omega, fun ys p pm so np => k ys p _ ⟨so, ?_, .inr (.inr ⟨hk, hu', pm⟩)⟩ (s2.trans (same_new np)) (s2.free np) upd_same⟩
     rw [pm.length_eq, List.length_map]
     omega
def spMembers (K : PySem.W.Frag) (C CN : Addr) : Sp := fun vs H Q E => ∃ (x : Addr) (y : V) (ks : List KRow) (fs : List FRow) (us : List URow) (root : Str), vs = [.ref x, y] ∧ BuiltAt C H x ks fs us root ∧ SchOk ks fs us root ∧
 ((∃ z, y = .str z ∧ z ∈ bsOf ks fs us ∧ ∀ (l : List Str) p H', MemL ks us z l → Same H H' → H p = none → H' p = some (.lst (l.map V.str)) → Q (.ref p) H') ∨
  (((∃ z, y = .str z ∧ z ∉ bsOf ks fs us) ∨ ∃ t, TyX K H y t ∧ PySem.W.kitOne K t (.type "str") = some false) ∧ ∀ d H', Same H H' → H d = none → H' d = some (.xd [("base", y)]) → E (.ref CN) (some d) H'))
theorem ok_members {f f1 f2 C CN : Addr} {fd fd1 fd2 : FuncData} (F : Fun K "members" "Schema.members" s_Schema_members f fd) (mC : InM K C f1) (bC : Binds K fd1 ["self", "base"] []) (G_contains : FnOk P w K mg base CX0 2 f1 fd1 ["self", "base"] (spContains K C))
  (NN : NoB K mg CN f2) (bN : Binds K fd2 ["self", "base"] []) (G_NB : FnOk P w K mg base CX0 1 f2 fd2 ["self", "base"] (spNB CN)) (T : Nms mg) (L : ClT K C) : FnOk P w K mg base (L2N.CX P w) 4 f fd ["self", "base"] (spMembers K C CN) := by
 have TN := NN.T
 have iC := NN.iC
 have tI := NN.tI
 have gN := NN.g
 refine okC F sc_Schema_members (fun vs H Q E h => ?_) (fun cdv A outer s H vs Q E hr h => ?_)
 ·obtain ⟨x, y, ks, fs, us, root, rfl, _⟩ := h
  rfl
 ·obtain ⟨x, y, ks, fs, us, root, rfl, Bt, ok, q⟩ := h
  have hu := hu_of hr
  refine ⟨_, (pss_cons (ps_if (pt_cmpR (op_notIn_own mC G_contains (hr.mono (by decide)) bC .nil pass0) (pv 1) (pv 0) (by rfl))
    (pss_one (L2N.ps_raise rfl (L2N.takes_of rfl rfl rfl rfl) (pmkN TN iC tI G_NB (hr.mono (by decide)) bN pass0 (by rfl) gN (pa_cons (pv 1) pa_nil))))
    pss_nil)
   (PSs.nox (pss_cons (ps_if (pt_cmp (pc_din hu (pv 1) (pe_fld (pv 0) rfl)) rfl)
    (pss_one (ps_ret (pe_lst (pa_cons (pv 1) pa_nil))))
    pss_nil)
   (pss_cons (ps_if (pt_cmp (pc_din hu (pv 1) (pe_fld (pv 0) rfl)) rfl)
    (pss_one (ps_ret (pe_callTy call_list_of (by rfl) T.n_list (by decide +kernel) (pa_cons (pe_dget hu (pe_fld (pv 0) rfl) (pv 1) (fun _ _ => rfl)) pa_nil))))
    pss_nil)
   (pss_one (ps_ret (pe_callB cr_sortedS (by rfl) T.n_sorted (by decide +kernel) (pa_cons (pe_lock (pe_lc (own := [("kind", 2)]) (g := (gName 2)) rfl sc_Schema_members.nd (pi_keys (pe_fld (pv 0) rfl)) (blkOk_by (own := [("kind", 2)]) (N := N_Schema_members) (sc := defScope s_Schema_members) (by decide +kernel)) (fun _ _ _ _ _ => (pg_name (i := 2) sc_Schema_members.nd rfl (.inl rfl))) (fun _ _ _ _ _ => pts_one (pt_cmpR (op_in_seqK K) (pv 1) (pe_ix (ix_tupK K) (pe_dget hu (pe_fldK K (pv 0) rfl) (pv 2) (fun _ _ => rfl)) pe_int (fun _ _ => rfl)) (by rfl))) (fun _ _ _ _ _ => (pv 2)))) pa_nil)))))))), ?_⟩
  have k1 := ok.k1
  have f1' := ok.f1
  have u1 := ok.u1
  have Bt' := Bt
  obtain ⟨dx0, kt, ft, ut, ks', fs', us', hx, S, rk, rf, ru⟩ := Bt'
  obtain ⟨e1, e2, e3⟩ := Bt.names ks' fs' us' rk rf ru
  have bad : ∀ H1, Same H H1 → (∀ d H', Same H H' → H d = none → H' d = some (.xd [("base", y)]) → E (.ref CN) (some d) H') → ∀ a, H1 a = none → spNB CN ([.ref a, y]) (upd H1 a (exo a CN none)) (fun v H2 => v = .non ∧ ∃ (d : Addr) (fs : List (Str × V)), H2 a = some (exo a CN (some d)) ∧ H2 d = some (exd d fs) ∧ H1 d = none ∧ E (.ref CN) (some d) (upd (del H2 a) d (.xd fs))) E0 := by
   intro H1 s1 k a na
   refine ⟨a, y, rfl, upd_same, fun d nd nda => ⟨rfl, d, [("base", y)], upd_same, by rw [upd_ne nda, upd_same], ?_, ?_⟩⟩
   ·rw [upd_ne nda] at nd
    exact nd
   ·rw [upd_ne nda] at nd
    refine k d _ (fun b o e => ?_) (s1.free nd) upd_same
    have eb := s1 _ _ e
    have nbd : b ≠ d := ne_of_none eb nd
    have nba : b ≠ a := ne_of_none eb na
    rw [upd_ne nbd, del_ne nba, upd_ne nba, upd_ne nbd, upd_ne nba]
    exact eb
  rcases q with ⟨z, rfl, hz, q⟩ | ⟨hbad, q⟩
  ·refine ⟨.str z, rfl, .ref x, rfl, x, dx0, _, rfl, hx, x, .str z, ks, fs, us, root, rfl, Bt, k1, f1', u1, .inl ⟨z, rfl, fun H1 s1 => ⟨_, rfl, _, rfl, ?_⟩⟩⟩
   rw [decide_eq_true hz]
   refine iteF ?_
   have hx1 := s1 _ _ hx
   have S1 := S.same s1
   refine ⟨.str z, rfl, .ref x, rfl, x, C, dx0, _, _, rfl, hx1, L.cl, L.nk, lkk .., kt, _, rfl, .inl ⟨kkv ks', .inr z, .inl S1.kd, rfl, rfl⟩, _, rfl, ?_⟩
   have ndk : (ks'.map (·.nm)).Nodup := by rw [e1]; exact ok.ndk
   have ndu : (us'.map (·.nm)).Nodup := by rw [e3]; exact ok.ndu
   by_cases hk : z ∈ ks.map (·.nm)
   ·rw [kkv_some ndk (by rw [e1]; exact hk)]
    exact iteT ⟨.str z, rfl, by show 1 ≤ sizeLine; decide, fun p np => q [z] p _ ⟨rfl, by show 1 ≤ 6; decide, .inl ⟨hk, rfl⟩⟩ (s1.trans (same_new np)) (s1.free np) upd_same⟩
   ·have e0 : valV (kkv ks') (Sum.inr z) = none := valV_out (f := fun k : KRow => k.nm) (g := fun k => V.ref k.t) (by rw [e1]; exact hk)
    rw [e0]
    refine iteF ⟨.str z, rfl, .ref x, rfl, x, C, dx0, _, _, rfl, hx1, L.cl, L.nu, lku .., ut, _, rfl, .inl ⟨ukv us', .inr z, .inl S1.ud, rfl, rfl⟩, _, rfl, ?_⟩
    by_cases hu' : z ∈ us.map (·.nm)
    ·obtain ⟨u', um', en⟩ := List.mem_map.mp (show z ∈ us'.map (·.nm) by rw [e3]; exact hu')
     subst en
     rw [ukv_val ndu um']
     obtain ⟨i, hi, ei⟩ := List.getElem_of_mem um'
     have hi2 : i < us.length := by rw [← ru.1]; exact hi
     obtain ⟨r1, r2, r3⟩ := ru.2 i us[i] u' (List.getElem?_eq_getElem hi2) (by rw [← ei]; exact List.getElem?_eq_getElem hi)
     have um : us[i] ∈ us := List.getElem_mem hi2
     obtain ⟨_, _, n3, _⟩ := ok.ud _ um
     refine iteT ⟨.ref x, rfl, x, C, dx0, _, _, rfl, hx1, L.cl, L.nu, lku .., .str u'.nm, rfl, ut, _, rfl, .inl ⟨ukv us', .inr u'.nm, .inl S1.ud, rfl, (ukv_val ndu um').symm⟩, u'.t, _, rfl, .inr (.inl (.inl (S1.ua u' um'))), fun p np => q u'.ms p _ ⟨r3, by rw [r2.length_eq]; omega, .inr (.inl ⟨hk, us[i], um, r1.symm, r2⟩)⟩ (s1.trans (same_new np)) (s1.free np) upd_same⟩
    ·have e1' : valV (ukv us') (Sum.inr z) = none := valV_out (f := fun k : URow => k.nm) (g := fun k => V.ref k.t) (by rw [e3]; exact hu')
     rw [e1']
     refine iteF ⟨kt, .dK (kkv ks'), S1.kd, trivial, fun od => ⟨.ref x, rfl, x, C, dx0, _, _, rfl, by rw [upd_ne (ne_of hx1 S1.kd (by intro z; cases z))]; exact hx1, L.cl, L.nk, lkk .., kt, od, rfl, .inl ⟨kkv ks', upd_same, fun Da nD => ?_⟩⟩⟩
     have hkl : (kkv ks').length = ks'.length := List.length_map ..
     refine lc_it walk_keys (fun i H' => Same (upd H1 kt (.frz od (.dK (kkv ks')))) H' ∧ H' Da = some (.lst (((ks'.take i).filter fun k => decide (z ∈ k.fcs)).map fun k => V.str k.nm))) ⟨same_new nD, upd_same⟩ (fun i H _ p => p.1 _ _ upd_same) ?_ ?_
     ·rintro i y2 H2 H3 hi ⟨sm, ed⟩ ⟨rfl, kk, v, e, rfl⟩
      obtain ⟨r, er, rfl, rfl⟩ := kkv_at e
      have hm := List.mem_of_getElem? er
      have rkd : Rd H3 kt (.dK (kkv ks')) := .inr ⟨od, sm _ _ upd_same⟩
      have hr' := S1.ka r hm
      have hx3 : H3 x = some (.ins C dx0 (pfs kt ft ut root)) := sm _ _ (by rw [upd_ne (ne_of hx1 S1.kd (by intro z; cases z))]; exact hx1)
      have ht : SqT K H3 r.t [.ref r.fa, .ref r.da] := .inl (.inl (sm _ _ (by rw [upd_ne (ne_of hr'.t S1.kd (by intro z; cases z))]; exact hr'.t)))
      have hfa : SqT K H3 r.fa (r.fcs.map V.str) := .inl (.inl (sm _ _ (by rw [upd_ne (ne_of hr'.f S1.kd (by intro z; cases z))]; exact hr'.f)))
      have et : ks'.take (i + 1) = ks'.take i ++ [r] := by rw [List.take_add_one, er]; rfl
      have hl6 := rk.1
      refine ⟨rfl, .str z, rfl, .ref x, rfl, x, C, dx0, _, _, rfl, hx3, L.cl, L.nk, lkk .., .str r.nm, rfl, kt, _, rfl, .inl ⟨kkv ks', .inr r.nm, rkd, rfl, (kkv_val ndk hm).symm⟩, r.t, _, 0, _, rfl, rfl, ht, atI_nat (j := 0) rfl, r.fa, _, rfl, .inr hfa, rfl, flat_map _, _, rfl, ?_⟩
      by_cases hin : z ∈ r.fcs
      ·show if (if false = true then !inV (.str z) (r.fcs.map V.str) else inV (.str z) (r.fcs.map V.str)) = true then _ else _
       rw [if_neg (show ¬ (false = true) by decide), inV_strs, decide_eq_true hin, if_pos rfl]
       refine ⟨.str r.nm, rfl, _, ed, ?_, same_upd sm nD, ?_⟩
       ·rw [List.length_map]
        have h1 := List.length_filter_le (fun k : KRow => decide (z ∈ k.fcs)) (ks'.take i)
        have h2 := List.length_take_le i ks'
        exact Nat.lt_of_le_of_lt (show _ ≤ 1000 by omega) (by decide)
       ·rw [upd_same, et, List.filter_append, List.map_append]
        rw [List.filter_cons_of_pos (by simpa using hin)]
        rfl
      ·show if (if false = true then !inV (.str z) (r.fcs.map V.str) else inV (.str z) (r.fcs.map V.str)) = true then _ else _
       rw [if_neg (show ¬ (false = true) by decide), inV_strs, decide_eq_false hin, if_neg (by decide)]
       refine ⟨sm, ?_⟩
       rw [et, List.filter_append, List.filter_cons_of_neg (by simpa using hin), List.filter_nil, List.append_nil]
       exact ed
     ·rintro H2 ⟨sm, ed⟩
      rw [hkl, List.take_length] at ed
      refine ⟨sm _ _ upd_same, ?_⟩
      have nDk : Da ≠ kt := fun z => by rw [z, upd_same] at nD; cases nD
      have s2 : Same H1 (upd H2 kt (.dK (kkv ks'))) := same_unlock S1.kd sm
      have efil : (ks'.filter fun k => decide (z ∈ k.fcs)).map (·.nm) = (ks.filter fun k => decide (z ∈ k.fcs)).map (·.nm) := by
       have key : ∀ {l l' : List KRow}, l'.length = l.length → (∀ (j : Nat) (a b : KRow), l[j]? = some a → l'[j]? = some b → b.nm = a.nm ∧ b.fcs.Perm a.fcs) → (l'.filter fun k => decide (z ∈ k.fcs)).map (·.nm) = (l.filter fun k => decide (z ∈ k.fcs)).map (·.nm) := by
        intro l
        induction l with
        | nil =>
         intro l' hl _
         rw [List.length_eq_zero_iff.mp hl]
        | cons a l ih =>
         intro l' hl h
         cases l' with
         | nil => cases hl
         | cons b l' =>
          obtain ⟨h1, h2⟩ := h 0 a b rfl rfl
          have ih' := ih (l' := l') (Nat.succ.inj hl) fun j a' b' ea eb => h (j + 1) a' b' ea eb
          rw [List.filter_cons, List.filter_cons]
          by_cases hh : z ∈ a.fcs
          ·rw [if_pos (decide_eq_true (h2.mem_iff.mpr hh)), if_pos (decide_eq_true hh), List.map_cons, List.map_cons, ih', h1]
          ·rw [if_neg (by simpa using fun q => hh (h2.mem_iff.mp q)), if_neg (by simpa using hh), ih']
       exact key rk.1 fun j a b ea eb => ⟨(rk.2 j a b ea eb).1, (rk.2 j a b ea eb).2.1⟩
      have e4 : (upd H2 kt (.dK (kkv ks'))) Da = some (.lst (((ks.filter fun k => decide (z ∈ k.fcs)).map (·.nm)).map V.str)) := by
       rw [upd_ne nDk, ed, ← efil, List.map_map]
       rfl
      have hle := List.length_filter_le (fun k : KRow => decide (z ∈ k.fcs)) ks
      have s3 := s1.trans s2
      refine ⟨Da, _, rfl, SqL.of e4, by rw [List.length_map]; omega, fun ys p pm so np => q ys p _ ⟨so, ?_, .inr (.inr ⟨hk, hu', pm⟩)⟩ (s3.trans (same_new np)) (s3.free np) upd_same⟩
      rw [pm.length_eq, List.length_map]
      omega
  ·rcases hbad with ⟨z, rfl, hz⟩ | ⟨t, ht, hkt⟩
   ·refine ⟨.str z, rfl, .ref x, rfl, x, dx0, _, rfl, hx, x, .str z, ks, fs, us, root, rfl, Bt, k1, f1', u1, .inl ⟨z, rfl, fun H1 s1 => ⟨_, rfl, _, rfl, ?_⟩⟩⟩
    rw [decide_eq_false hz]
    exact iteT ⟨.str z, rfl, by show 1 ≤ 1000; decide, bad H1 s1 q⟩
   ·exact ⟨y, rfl, .ref x, rfl, x, dx0, _, rfl, hx, x, y, ks, fs, us, root, rfl, Bt, k1, f1', u1, .inr ⟨t, ht, hkt, fun H1 s1 => ⟨_, rfl, _, rfl, iteT ⟨y, rfl, by show 1 ≤ 1000; decide, bad H1 s1 q⟩⟩⟩⟩
end
end NW
namespace NW
open PySem PySem.Spec PyProof.Rows L2
open TL (tl)
open StX (pa_star)
abbrev s_is_plain_int : Stmt := topS 13
abbrev N_is_plain_int : List Str := ["number"]
theorem sc_is_plain_int : FnScope N_is_plain_int ["number"] (defScope s_is_plain_int) := ⟨rfl, rfl, rfl, by decide +kernel, rfl, by decide +kernel, by decide +kernel⟩
def qfs (x : Addr) (r : V) (pt st : Addr) : List (Str × V) := [("schema", V.ref x), ("rows", r), ("part_table", V.ref pt), ("statement_table", V.ref st)]
def stv (its : List Itm) (es : List Addr) : List (List Key × V) := (its.zip es).map fun p => (p.1.pl, V.ref p.2)
def EntAt (H : Hp) (a : Addr) (i : Itm) : Prop := ∃ s, H a = some (.tup [.str i.z, s]) ∧ StAt H s i.t
theorem EntAt.tk {H H' : Hp} {a : Addr} {i : Itm} (k : Tk H H') (h : EntAt H a i) : EntAt H' a i := by
 obtain ⟨s, h1, h2⟩ := h
 exact ⟨s, k _ _ h1, h2.tk k⟩
def EntsAt (H : Hp) (its : List Itm) (es : List Addr) : Prop := es.length = its.length ∧ ∀ (j : Nat) (i : Itm) (a : Addr), its[j]? = some i → es[j]? = some a → EntAt H a i
theorem EntsAt.tk {H H' : Hp} {its : List Itm} {es : List Addr} (k : Tk H H') (h : EntsAt H its es) : EntsAt H' its es := ⟨h.1, fun j i a e1 e2 => (h.2 j i a e1 e2).tk k⟩
def QBuilt (CQ : Addr) (H : Hp) (q x : Addr) (r : V) (ks : List KRow) (fs : List FRow) (root : Str) (rows : List St) (ps : List PRow) : Prop :=
 ∃ dx pt st es, H q = some (.ins CQ dx (qfs x r pt st)) ∧ H pt = some (.dK (ptv ps)) ∧ H st = some (.dT (stv (allItems ks fs ps root rows) es)) ∧ EntsAt H (allItems ks fs ps root rows) es
theorem QBuilt.same {CQ : Addr} {H H' : Hp} {q x : Addr} {r : V} {ks : List KRow} {fs : List FRow} {root : Str} {rows : List St} {ps : List PRow} (s : Same H H') (h : QBuilt CQ H q x r ks fs root rows ps) : QBuilt CQ H' q x r ks fs root rows ps := by
 obtain ⟨dx, pt, st, es, h1, h2, h3, h4⟩ := h
 exact ⟨dx, pt, st, es, s _ _ h1, s _ _ h2, s _ _ h3, h4.tk (Same.tk s)⟩
section
variable {P : Program} {w : World} {K : PySem.W.Frag} {mg : Str → Option Value} {base : Heap}
def spPlainInt (K : PySem.W.Frag) : Sp := fun vs H Q _ => ∃ v, vs = [v] ∧ ((∃ i, v = .int i ∧ Q (.bl true) H) ∨ (∃ b, v = .bl b ∧ Q (.bl false) H) ∨ ∃ t, TyX K H v t ∧ PySem.W.kitOne K t (.type "int") = some false ∧ Q (.bl false) H)
theorem ok_is_plain_int {f : Addr} {fd : FuncData} (D : Df K mg "is_plain_int" s_is_plain_int f fd ["number"]) (T : Nms mg) : FnOk P w K mg base CX0 1 f fd ["number"] (spPlainInt K) := by
 refine D.F.ok sc_is_plain_int (fun vs H Q E h => ?_) (fun cdv A outer s H vs Q E hr h => ?_)
 ·obtain ⟨v, rfl, _⟩ := h
  rfl
 ·obtain ⟨v, rfl, h⟩ := h
  refine ⟨_, (pss_one (ps_ret (pe_and (pe_callB call_isi (by rfl) T.n_isinstance (by decide +kernel) (pa_cons (pv 0) (pa_cons (pe_bltn (v := .ty "int") (by rfl) T.n_int (by decide +kernel) rfl) pa_nil))) (pe_one (pe_not (pe_callB call_isi (by rfl) T.n_isinstance (by decide +kernel) (pa_cons (pv 0) (pa_cons (pe_bltn (v := .ty "bool") (by rfl) T.n_bool (by decide +kernel) rfl) pa_nil)))))))), ?_⟩
  rcases h with ⟨i, rfl, q⟩ | ⟨b, rfl, q⟩ | ⟨t, ht, hk, q⟩
  ·exact ⟨.int i, rfl, _, _, _, _, true, rfl, .ty "int", .base (.int i), kit_ty (by decide +kernel), true, rfl, iteT ⟨.int i, rfl, _, _, _, _, false, rfl, .ty "bool", .base (.int i), kit_ty (by decide +kernel), false, rfl, q⟩⟩
  ·exact ⟨.bl b, rfl, _, _, _, _, true, rfl, .ty "int", .base (.bl b), kit_ty (by decide +kernel), true, rfl, iteT ⟨.bl b, rfl, _, _, _, _, true, rfl, .ty "bool", .base (.bl b), kit_ty (by decide +kernel), true, rfl, q⟩⟩
  ·exact ⟨v, rfl, v, _, _, _, false, rfl, .ty "int", ht, hk, false, rfl, iteF q⟩
end
end NW
namespace NW
open PySem PySem.Spec PyProof.Rows L2
open TL (tl)
open StX (pa_star)
theorem putK_end {κ : Type} [DecidableEq κ] {a : List (κ × V)} {k : κ} {v : V} (ha : k ∉ a.map (·.1)) : putK a k v = a ++ [(k, v)] := by
 unfold putK
 rw [if_neg]
 intro h
 obtain ⟨x, hx, e⟩ := List.any_eq_true.mp h
 exact ha (List.mem_map.mpr ⟨x, hx, of_decide_eq_true e⟩)
structure Pl where
 q : Addr
 nl : Addr
 pt : Addr
 ht : Addr
 kl : Addr
 fl : Addr
 fr : Bool
abbrev kK (s : Str) : Key := Sum.inr s
theorem nk {z : Str} {l : List Str} (h : z ∉ l) : kK z ∉ l.map kK := fun m => by
 obtain ⟨x, hx, e⟩ := List.mem_map.mp m
 exact h (Sum.inr.inj e ▸ hx)
def plA (p : Pl) : List (Key × V) := [(kK "schema", .ref p.q), (kK "names", .ref p.nl)]
def plB (p : Pl) : List (Key × V) := [(kK "parts", .ref p.pt), (kK "highs", .ref p.ht), (kK "keys", .ref p.kl), (kK "flags", .ref p.fl), (kK "free", .bl p.fr)]
def plK (p : Pl) (rm : Nat) : List (Key × V) := plA p ++ (kK "room", .int (rm : Int)) :: plB p
def G2 (b d : Addr) (H H' : Hp) : Prop := ∀ a o, a ≠ b → a ≠ d → H a = some o → H' a = some o
theorem G2.trans {b d : Addr} {H H1 H2 : Hp} (x : G2 b d H H1) (y : G2 b d H1 H2) : G2 b d H H2 := fun a o n m e => y a o n m (x a o n m e)
theorem G2.tk {b d : Addr} {H H' : Hp} {xs : List V} {kvs : List (Key × V)} (hb : H b = some (.lst xs)) (hd : H d = some (.dK kvs)) (g : G2 b d H H') : Tk H H' := fun a ys e => g a _ (ne_of e hb (by intro z; cases z)) (ne_of e hd (by intro z; cases z)) e
structure PCtx (H : Hp) (b r pd : Addr) (p : Pl) (rm : Nat) (kt ft ut : Addr) (ks : List KRow) (fs : List FRow) (us : List URow) (root : Str) (nm kys fls : List Str) (ps : List PRow) (hp : Str → Nat) : Prop where
 B : Box H b r
 pl : H pd = some (.dK (plK p rm))
 sc : H p.q = some (.tup [.ref kt, .ref ft, .ref ut, .str root])
 at_ : SchAt H kt ft ut ks fs us
 nl : H p.nl = some (.lst (nm.map V.str))
 kl : H p.kl = some (.lst (kys.map V.str))
 fl : H p.fl = some (.lst (fls.map V.str))
 pt : H p.pt = some (.dK (ptv ps))
 ht : H p.ht = some (.dK (htv ps hp))
 n1 : p.nl ≠ b
 n2 : p.kl ≠ b
 n3 : p.fl ≠ b
 d1 : kt ≠ pd
 d2 : ft ≠ pd
 d3 : ut ≠ pd
 d4 : p.pt ≠ pd
 d5 : p.ht ≠ pd
 d6 : (∀ k ∈ ks, k.da ≠ pd) ∧ ∀ f ∈ fs, f.da ≠ pd
theorem PCtx.gr {H H' : Hp} {b r pd : Addr} {p : Pl} {rm : Nat} {kt ft ut : Addr} {ks : List KRow} {fs : List FRow} {us : List URow} {root : Str} {nm kys fls : List Str} {ps : List PRow} {hp : Str → Nat} (c : PCtx H b r pd p rm kt ft ut ks fs us root nm kys fls ps hp) (g : Gr b H H') (B' : Box H' b r) : PCtx H' b r pd p rm kt ft ut ks fs us root nm kys fls ps hp := by
 obtain ⟨xs, e⟩ := c.B.lst
 have hd : ∀ {a : Addr} {kvs : List (Key × V)}, H a = some (.dK kvs) → H' a = some (.dK kvs) := fun h => g _ _ (ne_of h e (by intro z; cases z)) h
 exact ⟨B', hd c.pl, g _ _ (ne_of c.sc e (by intro z; cases z)) c.sc, c.at_.gr (Oth.lst e) g, g _ _ c.n1 c.nl, g _ _ c.n2 c.kl, g _ _ c.n3 c.fl, hd c.pt, hd c.ht, c.n1, c.n2, c.n3, c.d1, c.d2, c.d3, c.d4, c.d5, c.d6⟩
theorem PCtx.same {H H' : Hp} {b r pd : Addr} {p : Pl} {rm : Nat} {kt ft ut : Addr} {ks : List KRow} {fs : List FRow} {us : List URow} {root : Str} {nm kys fls : List Str} {ps : List PRow} {hp : Str → Nat} (c : PCtx H b r pd p rm kt ft ut ks fs us root nm kys fls ps hp) (s : Same H H') : PCtx H' b r pd p rm kt ft ut ks fs us root nm kys fls ps hp := by
 obtain ⟨xs, e⟩ := c.B.lst
 exact c.gr (Same.gr s) (c.B.gr (Same.gr s) (by rw [s _ _ e, e]))
theorem PCtx.t {H : Hp} {b r pd : Addr} {p : Pl} {rm : Nat} {kt ft ut : Addr} {ks : List KRow} {fs : List FRow} {us : List URow} {root : Str} {nm kys fls : List Str} {ps : List PRow} {hp : Str → Nat} (c : PCtx H b r pd p rm kt ft ut ks fs us root nm kys fls ps hp) (ok : SchOk ks fs us root) : SchT H p.q kt ft ut ks fs us root := ⟨c.sc, c.at_, ok⟩
structure PFix (ks : List KRow) (fs : List FRow) (us : List URow) (root : Str) (nm kys fls : List Str) (ps : List PRow) : Prop where
 ok : SchOk ks fs us root
 n5 : nm.length ≤ 5
 nc : ∀ k ∈ ks, ∀ f ∈ k.fds, f.1 ∈ nm
 k12 : kys.length = 12
 kn : ∀ z ∈ kys, IsName z
 f3 : fls.length = 3
 fn : ∀ z ∈ fls, IsName z
 p4 : ps.length ≤ 4
 nd : (ps.map (·.nm)).Nodup
 pn : ∀ p ∈ ps, IsName p.nm
end NW
namespace NW
open PySem PySem.Spec PyProof.Rows L2
open TL (tl)
open StX (pa_star)
mutual
def flgS : St → List Str
 | .field _ _ r => flgR r
 | .kind _ => []
 | .on _ r => flgR r
 | .part _ => []
 | .iff f _ r => f :: flgR r
def flgR : List St → List Str
 | [] => []
 | s :: r => flgS s ++ flgR r
end
mutual
def szS : St → Nat
 | .field _ _ r => 1 + szR r
 | .kind _ => 1
 | .on _ r => 1 + szR r
 | .part _ => 1
 | .iff _ _ r => 1 + szR r
def szR : List St → Nat
 | [] => 0
 | s :: r => szS s + szR r
end
end NW
namespace NW
open PySem PySem.Spec PyProof.Rows L2
open TL (tl)
open StX (pa_star)
end NW
namespace NW
open PySem PySem.Spec PyProof.Rows L2
open TL (tl)
open StX (pa_star)
theorem G2.upd {b d p : Addr} {H H1 : Hp} {o : HO} (x : G2 b d H H1) (h : H p = none) : G2 b d H (upd H1 p o) := fun a u n m e => by rw [upd_ne (ne_of_none e h)]; exact x a u n m e
theorem PCtx.ne {H : Hp} {b r pd : Addr} {p : Pl} {rm : Nat} {kt ft ut : Addr} {ks : List KRow} {fs : List FRow} {us : List URow} {root : Str} {nm kys fls : List Str} {ps : List PRow} {hp : Str → Nat} {la : Addr} (c : PCtx H b r pd p rm kt ft ut ks fs us root nm kys fls ps hp) (n0 : H la = none) : la ≠ b ∧ la ≠ pd := ⟨c.B.neb n0, (ne_of_none c.pl n0).symm⟩
theorem PCtx.tk {H H' : Hp} {b r pd : Addr} {p : Pl} {rm : Nat} {kt ft ut : Addr} {ks : List KRow} {fs : List FRow} {us : List URow} {root : Str} {nm kys fls : List Str} {ps : List PRow} {hp : Str → Nat} (c : PCtx H b r pd p rm kt ft ut ks fs us root nm kys fls ps hp) (g : G2 b pd H H') : Tk H H' := by
 obtain ⟨xs, e⟩ := c.B.lst
 exact G2.tk e c.pl g
structure DrR (ks : List KRow) (fs : List FRow) (us : List URow) (ps : List PRow) (hp : Str → Nat) (fls : List Str) (z : Str) (n : Nat) (rows : List St) : Prop where
 len : rows.length ≤ 4
 fit : fitR ks fs (bsOf ks fs us) (fun x => x ∈ ps.map (·.nm)) z rows
 lv : lvR rows ≤ n
 ht : htR hp rows ≤ n
 fl : ∀ f ∈ flgR rows, f ∈ fls
end NW
namespace NW
open PySem PySem.Spec PyProof.Rows L2
open TL (tl)
open StX (pa_star)

theorem mem_ok {ks : List KRow} {fs : List FRow} {us : List URow} {root z : Str} {l : List Str} (ok : SchOk ks fs us root) (hz : z ∈ ks.map (·.nm) ++ (fs.map (·.nm) ++ us.map (·.nm))) (h : MemL ks us z l) : 0 < l.length ∧ ∀ x ∈ l, x ∈ ks.map (·.nm) := by
 obtain ⟨_, _, h⟩ := h
 rcases h with ⟨hk, rfl⟩ | ⟨hk, u, mu, rfl, pm⟩ | ⟨hk, hu, pm⟩
 ·exact ⟨Nat.one_pos, fun x m => List.mem_singleton.mp m ▸ hk⟩
 ·obtain ⟨_, h1, _, h2⟩ := ok.ud u mu
  exact ⟨by rw [pm.length_eq]; exact h1, fun x m => h2 x (pm.mem_iff.mp m)⟩
 ·have hf : z ∈ fs.map (·.nm) := by
   rcases List.mem_append.mp hz with m | m
   ·exact absurd m hk
   ·rcases List.mem_append.mp m with m | m
    ·exact m
    ·exact absurd m hu
  obtain ⟨f, mf, rfl⟩ := List.mem_map.mp hf
  obtain ⟨k, mk, hin⟩ := ok.fk f mf
  have mem : k.nm ∈ l := pm.mem_iff.mpr (List.mem_map.mpr ⟨k, List.mem_filter.mpr ⟨mk, decide_eq_true hin⟩, rfl⟩)
  exact ⟨List.length_pos_of_mem mem, fun x m => by
   obtain ⟨k2, mk2, e⟩ := List.mem_map.mp (pm.mem_iff.mp m)
   exact List.mem_map.mpr ⟨k2, (List.mem_filter.mp mk2).1, e⟩⟩
theorem okS_tgt {l : List Str} : ∀ {s : Shp} {n : Nat} {o : Bool}, okS l n o s → s.tgt ∈ l
 | .base _, 0, _, h => h
 | .base _, _ + 1, _, h => h
 | .sure s, 0, _, h => h.elim
 | .sure s, n + 1, _, h => okS_tgt (s := s) h.2
 | .list s, 0, _, h => h.elim
 | .list s, n + 1, _, h => okS_tgt (s := s) h
end NW
namespace NW
open PySem PySem.Spec PyProof.Rows L2
open TL (tl)
open StX (pa_star)
structure Parts (ks : List KRow) (fs : List FRow) (us : List URow) (ps : List PRow) (hp : Str → Nat) (fls : List Str) : Prop where
 zb : ∀ p ∈ ps, p.z ∈ bsOf ks fs us ∧ p.z ∉ [("number" : Str), ("text" : Str)]
 dr : ∀ (i : Nat) (p : PRow), ps[i]? = some p → DrR ks fs us (ps.take i) hp fls p.z 2 p.rows ∧ hp p.nm = htR hp p.rows
def psum (ps : List PRow) : Nat := (ps.map fun p => szR p.rows).sum
end NW
namespace NW
open PySem PySem.Spec PyProof.Rows L2
open TL (tl)
open StX (pa_star)
end NW
namespace NW
open PySem PySem.Spec PyProof.Rows L2
open TL (tl)
open StX (pa_star)
def Drawn (ks : List KRow) (fs : List FRow) (us : List URow) (root : Str) (rows : List St) (ps : List PRow) (fls : List Str) (room : Nat) : Prop := ∃ (nm kys : List Str) (hp : Str → Nat), PFix ks fs us root nm kys fls ps ∧ Parts ks fs us ps hp fls ∧ DrR ks fs us ps hp fls root 5 rows ∧ szR rows + psum ps ≤ room
section
variable {ks : List KRow} {fs : List FRow} {us : List URow} {root : Str} {rows : List St} {ps : List PRow} {fls : List Str} {room : Nat}
theorem Drawn.nd (h : Drawn ks fs us root rows ps fls room) : (ps.map (·.nm)).Nodup ∧ ps.length ≤ 4 := by
 obtain ⟨nm, kys, hp, fx, pk, dr, sz⟩ := h
 exact ⟨fx.nd, fx.p4⟩
end
end NW
namespace NW
open PySem PySem.Spec PyProof.Rows L2
open TL (tl)
open StX (pa_star)
open Classical in
noncomputable def memF (ks : List KRow) (us : List URow) (z : Str) : List Str := if h : ∃ l, MemL ks us z l then choose h else []
theorem memF_eq {ks : List KRow} {us : List URow} {z : Str} {l : List Str} (nd : (us.map (·.nm)).Nodup) (h : MemL ks us z l) : memF ks us z = l := by
 have h' : ∃ l, MemL ks us z l := ⟨l, h⟩
 unfold memF
 rw [dif_pos h']
 exact MemL.one nd (Classical.choose_spec h') h
theorem fdsAt_kind {ks : List KRow} {fs : List FRow} {us : List URow} {root : Str} (ok : SchOk ks fs us root) {k : KRow} (m : k ∈ ks) : fdsAt ks fs k.nm = k.fds := by
 unfold fdsAt
 rw [find_is (f := fun k : KRow => k.nm) ok.ndk m]
structure Ent where
 k : Str
 n : Str
 rows : List St
structure Wi where
 k : Str
 ns : List Str
 rs : List St
noncomputable def insS (ns : List Str) (n : Str) : List Str := srt (if n ∈ ns then ns else ns ++ [n])
noncomputable def wput (ws : List Wi) (e : Ent) : List Wi := if e.k ∈ ws.map (·.k) then ws.map (fun w => if w.k = e.k then ⟨w.k, insS w.ns e.n, w.rs ++ e.rows⟩ else w) else ws ++ [⟨e.k, [e.n], e.rows⟩]
theorem insS_nd {ns : List Str} {n : Str} (h : ns.Nodup) : (insS ns n).Nodup ∧ ∀ x, x ∈ insS ns n ↔ x ∈ ns ∨ x = n := by
 unfold insS
 have p := srt_perm (if n ∈ ns then ns else ns ++ [n])
 refine ⟨p.nodup_iff.mpr ?_, fun x => p.mem_iff.trans ?_⟩
 ·split
  ·exact h
  ·rename_i hn
   exact List.nodup_append.mpr ⟨h, by simp, fun a ha b hb e => hn (by rw [← List.mem_singleton.mp hb, ← e]; exact ha)⟩
 ·split
  ·rename_i hn
   exact ⟨.inl, fun h => h.elim id fun e => e ▸ hn⟩
  ·rw [List.mem_append, List.mem_singleton]
structure WOk (es : List Ent) (ws : List Wi) : Prop where
 nd : (ws.map (·.k)).Nodup
 ke : ∀ k, k ∈ ws.map (·.k) ↔ k ∈ es.map (·.k)
 ns : ∀ w ∈ ws, w.ns.Nodup ∧ ∀ x, x ∈ w.ns ↔ ∃ e ∈ es, e.k = w.k ∧ e.n = x
 rs : ∀ w ∈ ws, ∀ t ∈ w.rs, ∃ e ∈ es, e.k = w.k ∧ t ∈ e.rows
theorem wput_keys (ws : List Wi) (e : Ent) : (wput ws e).map (·.k) = if e.k ∈ ws.map (·.k) then ws.map (·.k) else ws.map (·.k) ++ [e.k] := by
 unfold wput
 split
 ·rw [List.map_map]
  refine List.map_congr_left fun w _ => ?_
  show (if w.k = e.k then (⟨w.k, insS w.ns e.n, w.rs ++ e.rows⟩ : Wi) else w).k = w.k
  split <;> rfl
 ·rw [List.map_append]
  rfl
theorem WOk.put {es : List Ent} {ws : List Wi} (h : WOk es ws) (e : Ent) : WOk (es ++ [e]) (wput ws e) := by
 have old : ∀ {P : Ent → Prop}, (∃ e' ∈ es, P e') → ∃ e' ∈ es ++ [e], P e' := fun ⟨e', m, p⟩ => ⟨e', List.mem_append_left _ m, p⟩
 refine ⟨?_, fun k => ?_, fun w m => ?_, fun w m t mt => ?_⟩
 ·rw [wput_keys]
  split
  ·exact h.nd
  ·rename_i hn
   exact List.nodup_append.mpr ⟨h.nd, by simp, fun a ha b hb e' => hn (by rw [← List.mem_singleton.mp hb, ← e']; exact ha)⟩
 ·rw [wput_keys, List.map_append, List.mem_append, ← h.ke k]
  split
  ·rename_i hk
   refine ⟨.inl, fun m => m.elim id fun m => ?_⟩
   have : k = e.k := List.mem_singleton.mp m
   rw [this]
   exact hk
  ·rw [List.mem_append]
   exact Iff.rfl
 ·unfold wput at m
  split at m
  ·obtain ⟨w0, m0, rfl⟩ := List.mem_map.mp m
   obtain ⟨n1, n2⟩ := h.ns w0 m0
   by_cases hk : w0.k = e.k
   ·rw [if_pos hk]
    obtain ⟨a, b⟩ := insS_nd (n := e.n) n1
    refine ⟨a, fun x => (b x).trans ?_⟩
    show x ∈ w0.ns ∨ x = e.n ↔ ∃ e' ∈ es ++ [e], e'.k = w0.k ∧ e'.n = x
    rw [n2 x]
    constructor
    ·rintro (h1 | rfl)
     ·exact old h1
     ·exact ⟨e, List.mem_append_right _ (List.mem_singleton.mpr rfl), hk.symm, rfl⟩
    ·rintro ⟨e', m', k', n'⟩
     rcases List.mem_append.mp m' with m' | m'
     ·exact .inl ⟨e', m', k', n'⟩
     ·rw [List.mem_singleton.mp m'] at n'
      exact .inr n'.symm
   ·rw [if_neg hk]
    refine ⟨n1, fun x => (n2 x).trans ⟨old, ?_⟩⟩
    rintro ⟨e', m', k', n'⟩
    rcases List.mem_append.mp m' with m' | m'
    ·exact ⟨e', m', k', n'⟩
    ·rw [List.mem_singleton.mp m'] at k'
     exact absurd k'.symm hk
  ·rename_i hn
   rcases List.mem_append.mp m with m | m
   ·obtain ⟨n1, n2⟩ := h.ns w m
    refine ⟨n1, fun x => (n2 x).trans ⟨old, ?_⟩⟩
    rintro ⟨e', m', k', n'⟩
    rcases List.mem_append.mp m' with m' | m'
    ·exact ⟨e', m', k', n'⟩
    ·rw [List.mem_singleton.mp m'] at k'
     exact absurd (List.mem_map.mpr ⟨w, m, k'.symm⟩) hn
   ·rw [List.mem_singleton.mp m]
    refine ⟨by simp, fun x => ?_⟩
    show x ∈ [e.n] ↔ ∃ e' ∈ es ++ [e], e'.k = e.k ∧ e'.n = x
    rw [List.mem_singleton]
    constructor
    ·rintro rfl
     exact ⟨e, List.mem_append_right _ (List.mem_singleton.mpr rfl), rfl, rfl⟩
    ·rintro ⟨e', m', k', n'⟩
     rcases List.mem_append.mp m' with m' | m'
     ·exact absurd ((h.ke e.k).mpr (List.mem_map.mpr ⟨e', m', k'⟩)) hn
     ·rw [List.mem_singleton.mp m'] at n'
      exact n'.symm
 ·unfold wput at m
  split at m
  ·obtain ⟨w0, m0, rfl⟩ := List.mem_map.mp m
   by_cases hk : w0.k = e.k
   ·rw [if_pos hk] at mt ⊢
    rcases List.mem_append.mp mt with mt | mt
    ·exact old (h.rs w0 m0 t mt)
    ·exact ⟨e, List.mem_append_right _ (List.mem_singleton.mpr rfl), hk.symm, mt⟩
   ·rw [if_neg hk] at mt ⊢
    exact old (h.rs w0 m0 t mt)
  ·rcases List.mem_append.mp m with m | m
   ·exact old (h.rs w m t mt)
   ·rw [List.mem_singleton.mp m] at mt ⊢
    exact ⟨e, List.mem_append_right _ (List.mem_singleton.mpr rfl), rfl, mt⟩
end NW
namespace NW
open PySem PySem.Spec PyProof.Rows L2
end NW
namespace NW
open PySem PySem.Spec PyProof.Rows L2
open TL (tl)
def nw (H H' : Hp) : Hp := fun a => match H a with
 | none => H' a
 | some (.tup xs) => some (.tup xs)
 | some _ => none
section
variable {H H0 H' H1 H2 : Hp} {a : Addr}
theorem nw_new (h : H a = none) : nw H H' a = H' a := by unfold nw; rw [h]
theorem nw_tup {xs : List V} (h : H a = some (.tup xs)) : nw H H' a = some (.tup xs) := by unfold nw; rw [h]
theorem nw_some {o : HO} (e : nw H H' a = some o) : (H a = none ∧ H' a = some o) ∨ ∃ xs, H a = some (.tup xs) ∧ o = .tup xs := by
 cases h : H a with
 | none => rw [nw_new h] at e; exact .inl ⟨rfl, e⟩
 | some u =>
  unfold nw at e
  rw [h] at e
  cases u with
  | tup xs => exact .inr ⟨xs, rfl, (Option.some.inj e).symm⟩
  | _ => cases e
theorem nw_le (t : Tk H H') : Same (nw H H') H' := fun a o e => by
 rcases nw_some e with ⟨_, h⟩ | ⟨xs, h, rfl⟩
 ·exact h
 ·exact t a xs h
theorem nw_go (g : ∀ a o, H a = none → H1 a = some o → H2 a = some o) : Same (nw H H1) (nw H H2) := fun a o e => by
 rcases nw_some e with ⟨h, h1⟩ | ⟨xs, h, rfl⟩
 ·rw [nw_new h]; exact g a o h h1
 ·exact nw_tup h
theorem nw_in (h1 : ∀ a, H a = none → H0 a = none) (h2 : ∀ a xs, H a = some (.tup xs) → H0 a = none ∨ H0 a = some (.tup xs)) (t : Tk H H') : Same (nw H H') (nw H0 H') := fun a o e => by
 rcases nw_some e with ⟨h, e1⟩ | ⟨xs, h, rfl⟩
 ·rw [nw_new (h1 a h)]; exact e1
 ·rcases h2 a xs h with h0 | h0
  ·rw [nw_new h0]; exact t a xs h
  ·exact nw_tup h0
end
def failD : PyData := .tuple [.str "fail"]
inductive VA (H : Hp) : Nat → V → PyData → Prop
 | non (n : Nat) : VA H n .non .none
 | fail (n : Nat) {a : Addr} (e : H a = some (.tup [.str "fail"])) : VA H n (.ref a) failD
 | num (n : Nat) (i : Int) : VA H n (.int i) (.int i)
 | txt (n : Nat) {x : Str} (h : PyData.strOk x = true) (l : x.length ≤ 1000) : VA H n (.str x) (.str x)
 | lst (n : Nat) {a : Addr} {xs : List V} {ds : List PyData} (e : H a = some (.lst xs)) (hl : xs.length = ds.length) (hm : xs.length ≤ 6)
   (al : ∀ (i : Nat) x d, xs[i]? = some x → ds[i]? = some d → VA H n x d) : VA H (n + 1) (.ref a) (.list ds)
theorem VA.same {H H' : Hp} (s : Same H H') : ∀ {n : Nat} {v : V} {d : PyData}, VA H n v d → VA H' n v d := by
 intro n v d h
 induction h with
 | non n => exact .non n
 | fail n e => exact .fail n (s _ _ e)
 | num n i => exact .num n i
 | txt n h l => exact .txt n h l
 | lst n e hl hm _ ih => exact .lst n (s _ _ e) hl hm ih
theorem dpAll_ofV {K : PySem.W.Frag} {H : Hp} : ∀ {xs : List V} {ds : List PyData}, xs.length = ds.length → (∀ (i : Nat) x d, xs[i]? = some x → ds[i]? = some d → Dp K H x d) → DpAll K H xs ds
 | [], [], _, _ => .nil
 | [], _ :: _, h, _ => by cases h
 | _ :: _, [], h, _ => by cases h
 | _ :: _, _ :: _, h, k => .cons (k 0 _ _ rfl rfl) (dpAll_ofV (Nat.succ.inj h) fun i x d e1 e2 => k (i + 1) x d e1 e2)
theorem VA.dp {K : PySem.W.Frag} {H : Hp} : ∀ {n : Nat} {v : V} {d : PyData}, VA H n v d → Dp K H v d := by
 intro n v d h
 induction h with
 | non n => exact .non
 | fail n e => exact .tup (.of e) (.cons (.str _) .nil)
 | num n i => exact .int i
 | txt n h l => exact .str _
 | lst n e hl hm _ ih => exact .lst (.of e) (dpAll_ofV hl ih)
theorem VA.lay {H : Hp} : ∀ {n : Nat} {v : V} {d : PyData}, VA H n v d → d.canLay0 = true ∧ d.depth ≤ n + 1 := by
 intro n v d h
 induction h with
 | non n => exact ⟨by simp [PyData.canLay0], by simp [PyData.depth]⟩
 | fail n e => exact ⟨by simp [failD, PyData.canLay0, PyData.canLayAll0]; decide +kernel, by simp [failD, PyData.depth, PyData.depthAll]⟩
 | num n i => exact ⟨by simp [PyData.canLay0], by simp [PyData.depth]⟩
 | txt n h l => exact ⟨by simpa [PyData.canLay0] using h, by simp [PyData.depth]⟩
 | @lst n a xs ds e hl hm al ih =>
  have k : ∀ (l : List PyData), (∀ d ∈ l, d.canLay0 = true ∧ d.depth ≤ n + 1) → PyData.canLayAll0 l = true ∧ PyData.depthAll l ≤ n + 1 := by
   intro l
   induction l with
   | nil => intro _; exact ⟨by simp [PyData.canLayAll0], by simp [PyData.depthAll]⟩
   | cons d r ihr =>
    intro h
    obtain ⟨a1, a2⟩ := ihr fun x m => h x (List.mem_cons_of_mem _ m)
    obtain ⟨b1, b2⟩ := h d List.mem_cons_self
    exact ⟨by simp [PyData.canLayAll0, a1, b1], by simp only [PyData.depthAll]; omega⟩
  obtain ⟨k1, k2⟩ := k ds fun d m => by
   obtain ⟨i, hi, rfl⟩ := List.getElem_of_mem m
   have hx : i < xs.length := by omega
   exact ih i xs[i] ds[i] (by simp [hx]) (by simp [hi])
  exact ⟨by simpa [PyData.canLay0] using k1, by simp only [PyData.depth]; omega⟩
theorem VA.shaped {H : Hp} {n : Nat} {v : V} {d : PyData} (h : VA H n v d) (hn : n ≤ 60) : SeqAt.shaped d = true := by
 obtain ⟨h1, h2⟩ := h.lay
 unfold SeqAt.shaped
 rw [h1, Bool.true_and]
 exact decide_eq_true (by omega)
abbrev s_copied : Stmt := topS 51
abbrev N_copied : List Str := ["value", "item"]
theorem sc_copied : FnScope N_copied ["value"] (defScope s_copied) := ⟨rfl, rfl, rfl, by decide +kernel, rfl, by decide +kernel, by decide +kernel⟩
section
variable {P : Program} {w : World} {K : PySem.W.Frag} {mg : Str → Option Value} {base : Heap}
def spCopied (n : Nat) : Sp := fun vs H Q _ => ∃ (v : V) (d : PyData), vs = [v] ∧ VA H n v d ∧ ∀ v' H', Same H H' → VA (nw H H') n v' d → Q v' H'
theorem nw_self {H : Hp} {n : Nat} {v : V} {d : PyData} (h : VA H n v d) (hl : ∀ ds, d ≠ .list ds) : VA (nw H H) n v d := by
 cases h with
 | non n => exact .non _
 | fail n e => exact .fail _ (nw_tup e)
 | num n i => exact .num _ i
 | txt n h l => exact .txt _ h l
 | lst n e _ _ _ => exact absurd rfl (hl _)
theorem ok_copied {f : Addr} {fd : FuncData} (D_copied : Df K mg "copied" s_copied f fd ["value"]) (T : Nms mg) : ∀ n : Nat, FnOk P w K mg base CX0 (n + 1) f fd ["value"] (spCopied n) := by
 intro n
 induction n with
 | zero =>
  refine D_copied.F.ok sc_copied (fun vs H Q E h => ?_) (fun cdv A outer s H vs Q E hr h => ?_)
  ·obtain ⟨v, d, rfl, _⟩ := h
   rfl
  ·obtain ⟨v, d, rfl, hv, q⟩ := h
   refine ⟨_, (pss_cons (ps_if (pt_val (pe_callB call_isi (by rfl) T.n_isinstance (by decide +kernel) (pa_cons (pv 0) (pa_cons (pe_bltn (v := .ty "list") (by rfl) T.n_list (by decide +kernel) rfl) pa_nil)))) (pss_one ps_never) pss_nil) (pss_one (ps_ret (pv 0)))), ?_⟩
   have fin := fun hl => q v H (Same.refl _) (nw_self hv hl)
   cases hv with
   | non n => exact ⟨.non, rfl, _, _, _, _, false, rfl, .ty "list", .base .non, kit_ty (by decide +kernel), false, rfl, iteF ⟨.non, rfl, fin (by intro _ z; cases z)⟩⟩
   | @fail n a e => exact ⟨.ref a, rfl, _, _, _, _, false, rfl, .ty "list", .base (.tup e), kit_ty (by decide +kernel), false, rfl, iteF ⟨.ref a, rfl, fin (by intro _ z; cases z)⟩⟩
   | num n i => exact ⟨.int i, rfl, _, _, _, _, false, rfl, .ty "list", .base (.int i), kit_ty (by decide +kernel), false, rfl, iteF ⟨.int i, rfl, fin (by intro _ z; cases z)⟩⟩
   | @txt n x h l => exact ⟨.str x, rfl, _, _, _, _, false, rfl, .ty "list", .base (.str x), kit_ty (by decide +kernel), false, rfl, iteF ⟨.str x, rfl, fin (by intro _ z; cases z)⟩⟩
 | succ n ih =>
  have G_copied := ih
  refine D_copied.F.ok sc_copied (fun vs H Q E h => ?_) (fun cdv A outer s H vs Q E hr h => ?_)
  ·obtain ⟨v, d, rfl, _⟩ := h
   rfl
  ·obtain ⟨v, d, rfl, hv, q⟩ := h
   refine ⟨_, (pss_cons (ps_if (pt_val (pe_callB call_isi (by rfl) T.n_isinstance (by decide +kernel) (pa_cons (pv 0) (pa_cons (pe_bltn (v := .ty "list") (by rfl) T.n_list (by decide +kernel) rfl) pa_nil))))
    (pss_one (ps_ret (pe_lc (own := [("item", 1)]) (g := (gName 1)) (tt := tYes) rfl sc_copied.nd (pi_list (pv 0)) (blkOk_by (own := [("item", 1)]) (N := N_copied) (sc := defScope s_copied) (by decide +kernel)) (fun _ _ _ _ _ => (pg_name (i := 1) sc_copied.nd rfl (.inl rfl))) (fun _ _ _ _ _ => pts_nil) (fun _ _ _ _ _ => (pe_call G_copied (hr.mono (by omega)) (by rfl) D_copied.g D_copied.F.kp D_copied.b .nil pass0 (pa_cons (pv 1) pa_nil))))))
    pss_nil)
   (pss_one (ps_ret (pv 0)))), ?_⟩
   have fin := fun hl => q v H (Same.refl _) (nw_self hv hl)
   cases hv with
   | non n => exact ⟨.non, rfl, _, _, _, _, false, rfl, .ty "list", .base .non, kit_ty (by decide +kernel), false, rfl, iteF ⟨.non, rfl, fin (by intro _ z; cases z)⟩⟩
   | @fail n a e => exact ⟨.ref a, rfl, _, _, _, _, false, rfl, .ty "list", .base (.tup e), kit_ty (by decide +kernel), false, rfl, iteF ⟨.ref a, rfl, fin (by intro _ z; cases z)⟩⟩
   | num n i => exact ⟨.int i, rfl, _, _, _, _, false, rfl, .ty "list", .base (.int i), kit_ty (by decide +kernel), false, rfl, iteF ⟨.int i, rfl, fin (by intro _ z; cases z)⟩⟩
   | @txt n x h l => exact ⟨.str x, rfl, _, _, _, _, false, rfl, .ty "list", .base (.str x), kit_ty (by decide +kernel), false, rfl, iteF ⟨.str x, rfl, fin (by intro _ z; cases z)⟩⟩
   | @lst n a xs ds e hl hm al =>
    refine ⟨.ref a, rfl, _, _, _, _, true, rfl, .ty "list", .base (.lst e), kit_ty (by decide +kernel), true, rfl, iteT ⟨.ref a, rfl, a, rfl, ⟨xs, .of e⟩, fun Da nD => ?_⟩⟩
    have nda : a ≠ Da := ne_of_none e nD
    refine lc_it (walk_list (xs := xs)) (fun i H3 => ∃ ys, H3 Da = some (.lst ys) ∧ ys.length = i ∧ Same H H3 ∧ ∀ (k : Nat) y d, ys[k]? = some y → ds[k]? = some d → VA (nw (upd H Da (.lst [])) H3) n y d)
     ⟨[], upd_same, rfl, same_new nD, fun k y d e => by simp at e⟩ (fun i H3 _ ⟨_, _, _, s3, _⟩ => SqL.of (s3 _ _ e)) ?_ ?_
    ·rintro i x H3 H3' hi ⟨ys, e3, hy, s3, ok⟩ ⟨rfl, ex⟩
     have hd : i < ds.length := by omega
     refine ⟨rfl, lcT ⟨x, rfl, x, ds[i], rfl, (al i x ds[i] ex (by simp [hd])).same s3, fun v' H4 s4 va => ?_⟩⟩
     have eD : H4 Da = some (.lst ys) := s4 _ _ e3
     have nl : ∀ b xs, H3' b = some (.tup xs) → b ≠ Da := fun b zs eb => ne_of eb e3 (by intro z; cases z)
     have sD : Same H (upd H4 Da (.lst (ys ++ [v']))) := same_upd (s3.trans s4) nD
     have g1 : Same (nw (upd H Da (.lst [])) H4) (nw (upd H Da (.lst [])) (upd H4 Da (.lst (ys ++ [v'])))) := nw_go fun b o hb e4 => by
      by_cases h : b = Da
      ·subst h; rw [upd_same] at hb; cases hb
      ·rw [upd_ne h]; exact e4
     refine ⟨ys, eD, by rw [hy]; exact Nat.lt_of_lt_of_le hi (Nat.le_trans hm (by decide)), ys ++ [v'], upd_same, by rw [List.length_append, hy]; rfl, sD, fun k y d ek ed => ?_⟩
     by_cases hk : k < ys.length
     ·rw [List.getElem?_append_left hk] at ek
      refine (ok k y d ek ed).same (Same.trans (nw_go fun b o hb e4 => s4 _ _ e4) g1)
     ·have e0 : k = ys.length := by
       have := (List.getElem?_eq_some_iff.mp ek).1
       rw [List.length_append] at this
       simp only [List.length_cons, List.length_nil] at this
       omega
      subst e0
      rw [List.getElem?_append_right (Nat.le_refl _), Nat.sub_self] at ek
      cases ek
      rw [hy, List.getElem?_eq_getElem hd] at ed
      cases ed
      refine va.same (Same.trans (nw_in (fun b hb => ?_) (fun b zs hb => ?_) (Same.tk s4)) g1)
      ·by_cases h : b = Da
       ·subst h; rw [e3] at hb; cases hb
       ·rw [upd_ne h]; exact s3.free hb
      ·have h := nl b zs hb
       rw [upd_ne h]
       cases q0 : H b with
       | none => exact .inl rfl
       | some o => exact .inr ((s3 _ _ q0).symm.trans hb)
    ·rintro H3 ⟨ys, e3, hy, s3, ok⟩
     refine q _ H3 s3 (.lst n (by rw [nw_new nD]; exact e3) (by rw [hy, hl]) (by rw [hy]; exact hm) fun k y d ek ed => (ok k y d ek ed).same (nw_in (fun b hb => ?_) (fun b zs hb => ?_) (fun b zs hb => ?_)))
     ·by_cases h : b = Da
      ·subst h; exact nD
      ·rw [upd_ne h] at hb; exact hb
     ·have h : b ≠ Da := by
       rintro rfl
       rw [upd_same] at hb
       cases hb
      rw [upd_ne h] at hb
      exact .inr hb
     ·have h : b ≠ Da := by
       rintro rfl
       rw [upd_same] at hb
       cases hb
      rw [upd_ne h] at hb
      exact s3 _ _ hb
end
end NW
namespace NW
open PySem PySem.Spec PyProof.Rows L2
open TL (tl)
structure CstS (mg : Str → Option Value) (K : PySem.W.Frag) : Prop where
 FAIL : ∃ a, mg "FAIL" = some (.ref a) ∧ ∀ H, SqT K H a [.str "fail"]
 MOST_THINGS : ∃ t, mg "MOST_THINGS" = some (.int 12 t)
 MOST_ITEMS : ∃ t, mg "MOST_ITEMS" = some (.int 6 t)
 MOST_LETTERS : ∃ t, mg "MOST_LETTERS" = some (.int 12 t)
 FIRST_SIGN : ∃ t, mg "FIRST_SIGN" = some (.int 32 t)
 LAST_SIGN : ∃ t, mg "LAST_SIGN" = some (.int 126 t)
 BARRED_SIGN : ∃ t, mg "BARRED_SIGN" = some (.int 37 t)
 n_abs : mg "abs" = none
 n_ord : mg "ord" = none
abbrev s_is_number : Stmt := topS 49
abbrev N_is_number : List Str := ["value"]
theorem sc_is_number : FnScope N_is_number ["value"] (defScope s_is_number) := ⟨rfl, rfl, rfl, by decide +kernel, rfl, by decide +kernel, by decide +kernel⟩
abbrev s_is_text : Stmt := topS 50
abbrev N_is_text : List Str := ["value", "sign"]
theorem sc_is_text : FnScope N_is_text ["value"] (defScope s_is_text) := ⟨rfl, rfl, rfl, by decide +kernel, rfl, by decide +kernel, by decide +kernel⟩
def NumOk (i : Int) : Prop := -(10 ^ 30) < i ∧ i < 10 ^ 30
def TxtOk (x : Str) : Prop := x.length ≤ 12 ∧ ∀ c ∈ tl x, 32 ≤ c ∧ c ≤ 126 ∧ c ≠ 37
section
variable {P : Program} {w : World} {K : PySem.W.Frag} {mg : Str → Option Value} {base : Heap}
def spIsNumber : Sp := fun vs H Q _ => ∃ i : Int, vs = [.int i] ∧ NumOk i ∧ Q (.bl true) H
theorem ok_is_number {f f1 : Addr} {fd fd1 : FuncData} (D : Df K mg "is_number" s_is_number f fd ["value"]) (D_is_plain_int : Df K mg "is_plain_int" s_is_plain_int f1 fd1 ["number"]) (T : Nms mg) (C : CstS mg K) : FnOk P w K mg base CX0 2 f fd ["value"] spIsNumber := by
 have G_is_plain_int : FnOk P w K mg base CX0 1 f1 fd1 ["number"] (spPlainInt K) := ok_is_plain_int D_is_plain_int T
 refine D.F.ok sc_is_number (fun vs H Q E h => ?_) (fun cdv A outer s H vs Q E hr h => ?_)
 ·obtain ⟨i, rfl, _⟩ := h
  rfl
 ·obtain ⟨i, rfl, hi, q⟩ := h
  refine ⟨_, (pss_one (ps_ret (pe_and (pe_call G_is_plain_int (hr.mono (by decide)) (by rfl) D_is_plain_int.g D_is_plain_int.F.kp D_is_plain_int.b .nil pass0 (pa_cons (pv 0) pa_nil)) (pe_one (pe_cmpR op_lt (pe_callB call_abs (by rfl) C.n_abs (by decide +kernel) (pa_cons (pv 0) pa_nil)) (pe_op op_pow pe_int pe_int) (nomark _)))))), ?_⟩
  refine ⟨.int i, rfl, .int i, rfl, .inl ⟨i, rfl, true, rfl, iteT ⟨.int i, rfl, i, rfl, _, _, rfl, rfl, ⟨by decide, by decide, by decide⟩, _, _, rfl, rfl, ?_⟩⟩⟩
  have e : decide ((if i < 0 then -i else i) < (10 : Int) ^ (30 : Int).toNat) = true := decide_eq_true (by
   have h1 := hi.1
   have h2 := hi.2
   show (if i < 0 then -i else i) < (10 : Int) ^ 30
   split <;> omega)
  show Q (.bl (decide ((if i < 0 then -i else i) < (10 : Int) ^ (30 : Int).toNat))) H
  rw [e]
  exact q
def spIsText : Sp := fun vs H Q _ => ∃ x : Str, vs = [.str x] ∧ TxtOk x ∧ ∀ H', Same H H' → Q (.bl true) H'
theorem ok_is_text {f : Addr} {fd : FuncData} (D : Df K mg "is_text" s_is_text f fd ["value"]) (T : Nms mg) (C : CstS mg K) : FnOk P w K mg base CX0 1 f fd ["value"] spIsText := by
 obtain ⟨t1, g_L⟩ := C.MOST_LETTERS
 obtain ⟨t2, g_A⟩ := C.FIRST_SIGN
 obtain ⟨t3, g_B⟩ := C.LAST_SIGN
 obtain ⟨t4, g_C⟩ := C.BARRED_SIGN
 refine D.F.ok sc_is_text (fun vs H Q E h => ?_) (fun cdv A outer s H vs Q E hr h => ?_)
 ·obtain ⟨x, rfl, _⟩ := h
  rfl
 ·obtain ⟨x, rfl, hx, q⟩ := h
  refine ⟨_, (pss_cons (ps_if (PW.pt (pw_or (pt_not (pt_val (pe_callB call_isi (by rfl) T.n_isinstance (by decide +kernel) (pa_cons (pv 0) (pa_cons (pe_bltn (v := .ty "str") (by rfl) T.n_str (by decide +kernel) rfl) pa_nil))))) (pw_or1 (pt_cmpR op_gt (pe_callB call_len_str (by rfl) T.n_len (by decide +kernel) (pa_cons (pv 0) pa_nil)) (pe_glob (v := .int 12) (by rfl) g_L ⟨_, rfl⟩) (nomark _)))))
    (pss_one (ps_ret pe_bl))
    pss_nil)
   (pss_one (ps_ret (pe_callB (cr_all rfl) (by rfl) T.n_all (by decide +kernel) (pa_cons (pe_lc (own := [("sign", 1)]) (g := (gName 1)) (tt := tYes) rfl sc_is_text.nd (pi_str (pv 0)) (blkOk_by (own := [("sign", 1)]) (N := N_is_text) (sc := defScope s_is_text) (by decide +kernel)) (fun _ _ _ _ _ => (pg_name (i := 1) sc_is_text.nd rfl (.inl rfl))) (fun _ _ _ _ _ => pts_nil) (fun _ _ _ _ _ => (pe_and (pe_chain op_le op_le (pe_glob (v := .int 32) (by rfl) g_A ⟨_, rfl⟩) (pe_callB call_ord (by rfl) C.n_ord (by decide +kernel) (pa_cons (pv 1) pa_nil)) (pe_glob (v := .int 126) (by rfl) g_B ⟨_, rfl⟩)) (pe_one (pe_cmpR op_ne (pe_callB call_ord (by rfl) C.n_ord (by decide +kernel) (pa_cons (pv 1) pa_nil)) (pe_glob (v := .int 37) (by rfl) g_C ⟨_, rfl⟩) (nomark _)))))) pa_nil))))), ?_⟩
  have hs : x.length ≤ sizeLine := Nat.le_trans hx.1 (by decide)
  refine ⟨.str x, rfl, _, _, _, _, true, rfl, .ty "str", .base (.str x), kit_ty (by decide +kernel), true, rfl, iteF ⟨.str x, rfl, x, rfl, hs, _, _, rfl, rfl, false, blF (by have := hx.1; omega), iteF ⟨.str x, rfl, x, rfl, fun Da nD => ?_⟩⟩⟩
  refine lc_it walk_str (fun i H' => H' = upd H Da (.lst ((List.replicate i true).map V.bl))) rfl (fun _ _ _ _ => trivial) ?_ ?_
  ·rintro i u H3 H4 hi rfl ⟨rfl, c, hc, rfl⟩
   have hcm : c ∈ tl x := List.mem_of_getElem? (by rw [Array.getElem?_toList]; exact hc)
   obtain ⟨h1, h2, h3⟩ := hx.2 c hcm
   have h3' : ¬ V.int (c : Int) = V.int 37 := fun z => h3 (by have := V.int.inj z; omega)
   refine ⟨rfl, lcT ⟨.str ⟨#[c]⟩, rfl, ⟨#[c]⟩, rfl, rfl, _, _, rfl, rfl, true, blT (by show (32 : Int) ≤ (c : Int); omega), iteT ⟨_, _, rfl, rfl, true, blT (by show (c : Int) ≤ 126; omega), iteT ⟨.str ⟨#[c]⟩, rfl, ⟨#[c]⟩, rfl, rfl, rfl, _, upd_same, ?_, ?_⟩⟩⟩⟩
   ·rw [List.length_map, List.length_replicate]
    have h1 := hx.1
    exact Nat.lt_of_le_of_lt (show i ≤ 1000 by have : x.length = x.cps.size := rfl; omega) (by decide)
   ·rw [upd_upd, show V.bl (!decide (V.int (((#[c] : Array Nat).getD 0 0 : Nat) : Int) = V.int 37)) = V.bl true by rw [decide_eq_false (show ¬ V.int (((#[c] : Array Nat).getD 0 0 : Nat) : Int) = V.int 37 from h3')]; rfl, rep_succ]
  ·rintro H3 rfl
   refine ⟨Da, _, rfl, SqL.of upd_same, ?_⟩
   rw [all_true]
   exact q _ (same_new nD)
end
end NW
namespace NW
open PySem PySem.Spec PyProof.Rows L2
open TL (tl)
inductive VOk (kd : List (Str × Str)) (ks : List KRow) (us : List URow) : Shp → PyData → Prop
 | non (s : Shp) : VOk kd ks us s .none
 | fail (s : Shp) : VOk kd ks us s failD
 | sure {s : Shp} {d : PyData} (h : VOk kd ks us s d) : VOk kd ks us (.sure s) d
 | lst {s : Shp} {ds : List PyData} (l : ds.length ≤ 6) (h : ∀ d ∈ ds, VOk kd ks us s d) : VOk kd ks us (.list s) (.list ds)
 | num {i : Int} (h : NumOk i) : VOk kd ks us (.base "number") (.int i)
 | txt {x : Str} (h : TxtOk x) : VOk kd ks us (.base "text") (.str x)
 | thg {z n k : Str} (h1 : z ≠ "number") (h2 : z ≠ "text") (m : (n, k) ∈ kd) (h : k ∈ memF ks us z) : VOk kd ks us (.base z) (.str n)
def kdv (kd : List (Str × Str)) : List (Key × V) := kd.map fun p => ((Sum.inr p.1 : Key), V.str p.2)
abbrev s_is_value : Stmt := topS 48
abbrev N_is_value : List Str := ["schema", "kinds", "shape", "value", "item"]
theorem sc_is_value : FnScope N_is_value ["schema", "kinds", "shape", "value"] (defScope s_is_value) := ⟨rfl, rfl, rfl, by decide +kernel, rfl, by decide +kernel, by decide +kernel⟩
theorem failD_eqv : PyData.eqv failD failD = true := by decide +kernel
theorem failD_no {d : PyData} (h : d ≠ failD) (k : (∃ i, d = .int i) ∨ (∃ x, d = .str x) ∨ ∃ ds, d = .list ds) : PyData.eqv d failD = false := by
 rcases k with ⟨i, rfl⟩ | ⟨x, rfl⟩ | ⟨ds, rfl⟩ <;> simp [failD, PyData.eqv]
theorem int_shaped (i : Int) : SeqAt.shaped (.int i) = true := by simp [SeqAt.shaped, PyData.canLay0, PyData.depth]
theorem failD_shaped : SeqAt.shaped failD = true := by decide +kernel
section
variable {P : Program} {w : World} {K : PySem.W.Frag} {mg : Str → Option Value} {base : Heap}
theorem fail_dp {H : Hp} {a : Addr} (h : ∀ H, SqT K H a [.str "fail"]) : Dp K H (.ref a) failD := .tup (h H) (.cons (.str _) .nil)
def spIsVal (C : Addr) (n : Nat) : Sp := fun vs H Q _ => ∃ (x kt : Addr) (sv v : V) (ks : List KRow) (fs : List FRow) (us : List URow) (root : Str) (kd : List (Str × Str)) (s : Shp) (m : Nat) (d : PyData), vs = [.ref x, .ref kt, sv, v] ∧
 BuiltAt C H x ks fs us root ∧ SchOk ks fs us root ∧ H kt = some (.dK (kdv kd)) ∧ (kd.map (·.1)).Nodup ∧ ShAt H sv s ∧ s.dep ≤ n ∧ s.tgt ∈ bsOf ks fs us ∧ VA H m v d ∧ m ≤ 60 ∧ VOk kd ks us s d ∧ ∀ H', Same H H' → Q (.bl true) H'
theorem ok_is_value {f f1 f2 f3 f4 f5 f6 C CN : Addr} {fd fd1 fd2 fd3 fd4 fd5 fd6 : FuncData} (D_is_value : Df K mg "is_value" s_is_value f fd ["schema", "kinds", "shape", "value"])
  (D_is_sure : Df K mg "is_sure" s_is_sure f1 fd1 ["shape"]) (D_is_number : Df K mg "is_number" s_is_number f2 fd2 ["value"]) (D_is_plain_int : Df K mg "is_plain_int" s_is_plain_int f3 fd3 ["number"]) (D_is_text : Df K mg "is_text" s_is_text f4 fd4 ["value"]) (D_is_key : Df K mg "is_key" s_is_key f5 fd5 ["name", "table"])
  (M_members : Mt K C "members" "Schema.members" s_Schema_members f6 fd6 ["self", "base"]) (G_members : FnOk P w K mg base (L2N.CX P w) 4 f6 fd6 ["self", "base"] (spMembers K C CN)) (T : Nms mg) (Cs : CstS mg K) (L : ClT K C) :
  ∀ n : Nat, FnOk P w K mg base CX0 (n + 5) f fd ["schema", "kinds", "shape", "value"] (spIsVal C n) := by
 have G_is_sure : FnOk P w K mg base CX0 1 f1 fd1 ["shape"] spIsSure := ok_is_sure D_is_sure T
 have G_is_number : FnOk P w K mg base CX0 2 f2 fd2 ["value"] spIsNumber := ok_is_number D_is_number D_is_plain_int T Cs
 have G_is_text : FnOk P w K mg base CX0 1 f4 fd4 ["value"] spIsText := ok_is_text D_is_text T Cs
 have G_is_key : FnOk P w K mg base CX0 1 f5 fd5 ["name", "table"] (spIsKey K) := ok_is_key D_is_key T
 obtain ⟨fa, g_F, hF⟩ := Cs.FAIL
 obtain ⟨t1, g_M⟩ := Cs.MOST_ITEMS
 intro n
 induction n with
 | zero =>
  refine D_is_value.F.ok sc_is_value (fun vs H Q E h => ?_) (fun cdv A outer s H vs Q E hr h => ?_)
  ·obtain ⟨x, kt, sv, v, ks, fs, us, root, kd, sh, m, d, rfl, _⟩ := h
   rfl
  ·obtain ⟨x, kt, sv, v, ks, fs, us, root, kd, sh, m, d, rfl, Bt, ok, hk, nd, hs, hd, htg, hv, hm, vok, q⟩ := h
   have hu := hu_of hr
   refine ⟨_, (pss_cons (ps_if (PW.pt (pw_or (pt_cmpR op_isN (pv 3) pe_non (nomark _)) (pw_or1 (pt_cmpR (op_eqD hr.units) (pv 3) (pe_glob (v := .ref fa) (by rfl) g_F rfl) (nomark _)))))
    (pss_one (ps_ret pe_bl))
    pss_nil)
   (pss_cons (ps_if (pt_val (pe_call G_is_sure (hr.mono (by decide)) (by rfl) D_is_sure.g D_is_sure.F.kp D_is_sure.b .nil pass0 (pa_cons (pv 2) pa_nil)))
    (pss_one ps_never)
    pss_nil)
   (pss_cons (ps_if (pt_val (pe_callB call_isi (by rfl) T.n_isinstance (by decide +kernel) (pa_cons (pv 2) (pa_cons (pe_bltn (v := .ty "tuple") (by rfl) T.n_tuple (by decide +kernel) rfl) pa_nil))))
    (pss_cons ps_never (pss_one ps_never))
    pss_nil)
   (pss_cons (ps_if (pt_cmpR op_eq (pv 2) pe_str (nomark _))
    (pss_one (ps_ret (pe_call G_is_number (hr.mono (by decide)) (by rfl) D_is_number.g D_is_number.F.kp D_is_number.b .nil pass0 (pa_cons (pv 3) pa_nil))))
    pss_nil)
   (pss_cons (ps_if (pt_cmpR op_eq (pv 2) pe_str (nomark _))
    (pss_one (ps_ret (pe_call G_is_text (hr.mono (by decide)) (by rfl) D_is_text.g D_is_text.F.kp D_is_text.b .nil pass0 (pa_cons (pv 3) pa_nil))))
    pss_nil)
   (pss_one (ps_ret (pe_and (pe_call G_is_key (hr.mono (by decide)) (by rfl) D_is_key.g D_is_key.F.kp D_is_key.b .nil pass0 (pa_cons (pv 3) (pa_cons (pv 1) pa_nil))) (pe_one (pe_cmpR op_in_seq (pe_dget hu (pv 1) (pv 3) (fun _ _ => rfl)) (pe_meth (pv 0) L.cl M_members.m G_members (hr.mono (by decide)) M_members.b .nil passA (pa_cons (pv 2) pa_nil)) (by rfl))))))))))), ?_⟩
   obtain ⟨dx, kt', ft', ut', _, _, _, hx, _⟩ := id Bt
   have start : ∀ {R : Prop}, (v ≠ .non → d ≠ failD → R) → (v = .non ∨ d = failD → R) → R := fun h1 h2 => by
    by_cases a1 : v = .non
    ·exact h2 (.inl a1)
    ·by_cases a2 : d = failD
     ·exact h2 (.inr a2)
     ·exact h1 a1 a2
   cases vok with
   | non s => 
    cases hv
    exact ⟨.non, rfl, rfl, _, rfl, iteT (q H (Same.refl _))⟩
   | fail s =>
    obtain ⟨a, rfl⟩ : ∃ a, v = .ref a := by cases hv; exact ⟨_, rfl⟩
    refine ⟨.ref a, rfl, rfl, _, rfl, iteF ⟨.ref a, rfl, failD, failD, hv.dp, fail_dp hF, failD_shaped, failD_shaped, _, rfl, ?_⟩⟩
    rw [failD_eqv]
    exact iteT (q H (Same.refl _))
   | sure h => exact absurd hd (by show ¬ (_ + 1 ≤ 0); omega)
   | lst l h => exact absurd hd (by show ¬ (_ + 1 ≤ 0); omega)
   | @num i h =>
    obtain rfl : sv = .str "number" := hs
    cases hv
    refine ⟨.int i, rfl, rfl, _, rfl, iteF ⟨.int i, rfl, .int i, failD, .int i, fail_dp hF, int_shaped i, failD_shaped, _, rfl, ?_⟩⟩
    rw [failD_no (by intro z; cases z) (.inl ⟨i, rfl⟩)]
    refine iteF ⟨.str "number", rfl, .str "number", .base "number", rfl, rfl, false, rfl, iteF ?_⟩
    refine ⟨.str "number", rfl, _, _, _, _, false, rfl, .ty "tuple", .base (.str _), kit_ty (by decide +kernel), false, rfl, iteF ?_⟩
    exact ⟨.str "number", rfl, rfl, true, blT rfl, iteT ⟨.int i, rfl, i, rfl, h, q H (Same.refl _)⟩⟩
   | @txt t h =>
    obtain rfl : sv = .str "text" := hs
    have hsh := hv.shaped hm
    cases hv
    refine ⟨.str t, rfl, rfl, _, rfl, iteF ⟨.str t, rfl, .str t, failD, .str t, fail_dp hF, hsh, failD_shaped, _, rfl, ?_⟩⟩
    rw [failD_no (by intro z; cases z) (.inr (.inl ⟨t, rfl⟩))]
    refine iteF ⟨.str "text", rfl, .str "text", .base "text", rfl, rfl, false, rfl, iteF ?_⟩
    refine ⟨.str "text", rfl, _, _, _, _, false, rfl, .ty "tuple", .base (.str _), kit_ty (by decide +kernel), false, rfl, iteF ?_⟩
    refine ⟨.str "text", rfl, rfl, false, blF (by decide), iteF ⟨.str "text", rfl, rfl, true, blT rfl, iteT ⟨.str t, rfl, t, rfl, h, q⟩⟩⟩
   | @thg z t k h1 h2 mk hk2 =>
    obtain rfl : sv = .str z := hs
    have hsh := hv.shaped hm
    cases hv
    have hval : valV (kdv kd) (Sum.inr t) = some (V.str k) := valV_map (f := fun p : Str × Str => p.1) (g := fun p => V.str p.2) nd mk
    refine ⟨.str t, rfl, rfl, _, rfl, iteF ⟨.str t, rfl, .str t, failD, .str t, fail_dp hF, hsh, failD_shaped, _, rfl, ?_⟩⟩
    rw [failD_no (by intro z; cases z) (.inr (.inl ⟨t, rfl⟩))]
    refine iteF ⟨.str z, rfl, .str z, .base z, rfl, rfl, false, rfl, iteF ?_⟩
    refine ⟨.str z, rfl, _, _, _, _, false, rfl, .ty "tuple", .base (.str _), kit_ty (by decide +kernel), false, rfl, iteF ?_⟩
    refine ⟨.str z, rfl, rfl, false, blF (fun e => h1 (V.str.inj e)), iteF ⟨.str z, rfl, rfl, false, blF (fun e => h2 (V.str.inj e)), iteF ?_⟩⟩
    refine ⟨.str t, rfl, .ref kt, rfl, .str t, kt, rfl, .inl ⟨t, rfl, .inr ⟨kdv kd, .inl hk, ?_⟩⟩⟩
    rw [hval]
    refine ⟨true, rfl, iteT ⟨.ref kt, rfl, .str t, rfl, kt, _, rfl, .inl ⟨kdv kd, .inr t, .inl hk, rfl, hval.symm⟩, ?_⟩⟩
    refine ⟨.ref x, rfl, x, dx, _, rfl, hx, lkn _ _ _ _ (by decide +kernel) (by decide +kernel) (by decide +kernel) (by decide +kernel), .str z, rfl, x, .str z, ks, fs, us, root, rfl, Bt, ok, .inl ⟨z, rfl, htg, fun l p H2 hl2 s2 np hp2 => ?_⟩⟩
    rw [memF_eq ok.ndu hl2] at hk2
    refine ⟨p, _, rfl, .inl (.of hp2), rfl, flat_map l, ?_⟩
    rw [inV_strs, decide_eq_true hk2]
    exact q H2 s2
 | succ n ih =>
  have G_is_value := ih
  refine D_is_value.F.ok sc_is_value (fun vs H Q E h => ?_) (fun cdv A outer s H vs Q E hr h => ?_)
  ·obtain ⟨x, kt, sv, v, ks, fs, us, root, kd, sh, m, d, rfl, _⟩ := h
   rfl
  ·obtain ⟨x, kt, sv, v, ks, fs, us, root, kd, sh, m, d, rfl, Bt, ok, hk, nd, hs, hd, htg, hv, hm, vok, q⟩ := h
   have hu := hu_of hr
   refine ⟨_, (pss_cons (ps_if (PW.pt (pw_or (pt_cmpR op_isN (pv 3) pe_non (nomark _)) (pw_or1 (pt_cmpR (op_eqD hr.units) (pv 3) (pe_glob (v := .ref fa) (by rfl) g_F rfl) (nomark _)))))
    (pss_one (ps_ret pe_bl))
    pss_nil)
   (pss_cons (ps_if (pt_val (pe_call G_is_sure (hr.mono (by omega)) (by rfl) D_is_sure.g D_is_sure.F.kp D_is_sure.b .nil pass0 (pa_cons (pv 2) pa_nil)))
    (pss_one (ps_ret (pe_call G_is_value (hr.mono (by omega)) (by rfl) D_is_value.g D_is_value.F.kp D_is_value.b .nil pass0 (pa_cons (pv 0) (pa_cons (pv 1) (pa_cons (pe_ix ix_tup (pv 2) pe_int (fun _ _ => rfl)) (pa_cons (pv 3) pa_nil)))))))
    pss_nil)
   (pss_cons (ps_if (pt_val (pe_callB call_isi (by rfl) T.n_isinstance (by decide +kernel) (pa_cons (pv 2) (pa_cons (pe_bltn (v := .ty "tuple") (by rfl) T.n_tuple (by decide +kernel) rfl) pa_nil))))
    (pss_cons (ps_if (PW.pt (pw_or (pt_not (pt_val (pe_callB call_isi (by rfl) T.n_isinstance (by decide +kernel) (pa_cons (pv 3) (pa_cons (pe_bltn (v := .ty "list") (by rfl) T.n_list (by decide +kernel) rfl) pa_nil))))) (pw_or1 (pt_cmpR op_gt (pe_callB call_len_seq (by rfl) T.n_len (by decide +kernel) (pa_cons (pv 3) pa_nil)) (pe_glob (v := .int 6) (by rfl) g_M ⟨_, rfl⟩) (nomark _)))))
     (pss_one (ps_ret pe_bl))
     pss_nil)
    (pss_one (ps_ret (pe_callB (cr_all rfl) (by rfl) T.n_all (by decide +kernel) (pa_cons (pe_lc (own := [("item", 4)]) (g := (gName 4)) (tt := tYes) rfl sc_is_value.nd (pi_list (pv 3)) (blkOk_by (own := [("item", 4)]) (N := N_is_value) (sc := defScope s_is_value) (by decide +kernel)) (fun _ _ _ _ _ => (pg_name (i := 4) sc_is_value.nd rfl (.inl rfl))) (fun _ _ _ _ _ => pts_nil) (fun _ _ _ _ _ => (pe_call G_is_value (hr.mono (by omega)) (by rfl) D_is_value.g D_is_value.F.kp D_is_value.b .nil pass0 (pa_cons (pv 0) (pa_cons (pv 1) (pa_cons (pe_ix (ix_tupK K) (pv 2) pe_int (fun _ _ => rfl)) (pa_cons (pv 4) pa_nil))))))) pa_nil)))))
    pss_nil)
   (pss_cons (ps_if (pt_cmpR op_eq (pv 2) pe_str (nomark _))
    (pss_one (ps_ret (pe_call G_is_number (hr.mono (by omega)) (by rfl) D_is_number.g D_is_number.F.kp D_is_number.b .nil pass0 (pa_cons (pv 3) pa_nil))))
    pss_nil)
   (pss_cons (ps_if (pt_cmpR op_eq (pv 2) pe_str (nomark _))
    (pss_one (ps_ret (pe_call G_is_text (hr.mono (by omega)) (by rfl) D_is_text.g D_is_text.F.kp D_is_text.b .nil pass0 (pa_cons (pv 3) pa_nil))))
    pss_nil)
   (pss_one (ps_ret (pe_and (pe_call G_is_key (hr.mono (by omega)) (by rfl) D_is_key.g D_is_key.F.kp D_is_key.b .nil pass0 (pa_cons (pv 3) (pa_cons (pv 1) pa_nil))) (pe_one (pe_cmpR op_in_seq (pe_dget hu (pv 1) (pv 3) (fun _ _ => rfl)) (pe_meth (pv 0) L.cl M_members.m G_members (hr.mono (by omega)) M_members.b .nil passA (pa_cons (pv 2) pa_nil)) (by rfl))))))))))), ?_⟩
   obtain ⟨dx, kt', ft', ut', _, _, _, hx, _⟩ := id Bt
   have start : ∀ {R : Prop}, (v ≠ .non → d ≠ failD → R) → (v = .non ∨ d = failD → R) → R := fun h1 h2 => by
    by_cases a1 : v = .non
    ·exact h2 (.inl a1)
    ·by_cases a2 : d = failD
     ·exact h2 (.inr a2)
     ·exact h1 a1 a2
   cases vok with
   | non s => 
    cases hv
    exact ⟨.non, rfl, rfl, _, rfl, iteT (q H (Same.refl _))⟩
   | fail s =>
    obtain ⟨a, rfl⟩ : ∃ a, v = .ref a := by cases hv; exact ⟨_, rfl⟩
    refine ⟨.ref a, rfl, rfl, _, rfl, iteF ⟨.ref a, rfl, failD, failD, hv.dp, fail_dp hF, failD_shaped, failD_shaped, _, rfl, ?_⟩⟩
    rw [failD_eqv]
    exact iteT (q H (Same.refl _))
   | @sure s' d h =>
    obtain ⟨a, u, rfl, ha, hu2⟩ := (show ∃ a u, sv = .ref a ∧ H a = some (.tup [.str "sure", u]) ∧ ShAt H u s' from hs)
    have hT : SqT K H a [.str "sure", u] := .inl (.inl ha)
    by_cases hsp : v = .non
    ·exact ⟨v, rfl, rfl, true, by rw [decide_eq_true hsp], iteT (q H (Same.refl _))⟩
    ·refine ⟨v, rfl, rfl, false, by rw [decide_eq_false hsp], iteF ⟨v, rfl, d, failD, hv.dp, fail_dp hF, hv.shaped hm, failD_shaped, _, rfl, ?_⟩⟩
     by_cases he : PyData.eqv d failD = true
     ·rw [he]
      exact iteT (q H (Same.refl _))
     ·rw [Bool.eq_false_iff.mpr he]
      refine iteF ⟨.ref a, rfl, .ref a, .sure s', rfl, hs, true, rfl, iteT ?_⟩
      exact ⟨.ref x, rfl, .ref kt, rfl, .ref a, rfl, a, _, 1, u, rfl, rfl, hT, atI_nat (j := 1) rfl, v, rfl, x, kt, u, v, ks, fs, us, root, kd, s', m, d, rfl, Bt, ok, hk, nd, hu2, Nat.le_of_succ_le_succ hd, htg, hv, hm, h, q⟩
   | @lst s' ds l h =>
    obtain ⟨a, u, rfl, ha, hu2⟩ := (show ∃ a u, sv = .ref a ∧ H a = some (.tup [.str "list", u]) ∧ ShAt H u s' from hs)
    have hT : ∀ {H'}, Same H H' → SqT K H' a [.str "list", u] := fun sm => .inl (.inl (sm _ _ ha))
    have hsh := hv.shaped hm
    have hdp := hv.dp (K := K)
    cases hv with
    | @lst m b xs _ e hl hm6 al =>
     refine ⟨.ref b, rfl, rfl, false, rfl, iteF ⟨.ref b, rfl, .list ds, failD, hdp, fail_dp hF, hsh, failD_shaped, _, rfl, ?_⟩⟩
     rw [failD_no (by intro z; cases z) (.inr (.inr ⟨ds, rfl⟩))]
     refine iteF ⟨.ref a, rfl, .ref a, .list s', rfl, hs, false, rfl, iteF ?_⟩
     refine ⟨.ref a, rfl, _, _, _, _, true, rfl, .ty "tuple", .base (.tup ha), kit_ty (by decide +kernel), true, rfl, iteT ?_⟩
     refine ⟨.ref b, rfl, _, _, _, _, true, rfl, .ty "list", .base (.lst e), kit_ty (by decide +kernel), true, rfl, iteF ⟨.ref b, rfl, b, xs, rfl, .inl (.of e), _, _, rfl, rfl, false, blF (by omega), iteF ?_⟩⟩
     refine ⟨.ref b, rfl, b, rfl, ⟨xs, .of e⟩, fun Da nD => ?_⟩
     refine lc_it (walk_list (xs := xs)) (fun i H3 => Same H H3 ∧ H3 Da = some (.lst ((List.replicate i true).map V.bl))) ⟨same_new nD, upd_same⟩ (fun i H3 _ p => SqL.of (p.1 _ _ e)) ?_ ?_
     ·rintro i y H3 H4 hi ⟨s3, e3⟩ ⟨rfl, ey⟩
      have hd2 : i < ds.length := by omega
      refine ⟨rfl, lcT ⟨.ref x, rfl, .ref kt, rfl, .ref a, rfl, a, _, 1, u, rfl, rfl, hT s3, atI_nat (j := 1) rfl, y, rfl, x, kt, u, y, ks, fs, us, root, kd, s', m, ds[i], rfl, Bt.same s3, ok, s3 _ _ hk, nd, hu2.same s3, Nat.le_of_succ_le_succ hd, htg, (al i y ds[i] ey (by simp [hd2])).same s3, by omega, h _ (List.getElem_mem _), fun H5 s5 => ?_⟩⟩
      refine ⟨_, s5 _ _ e3, ?_, same_upd (s3.trans s5) nD, ?_⟩
      ·rw [List.length_map, List.length_replicate]
       exact Nat.lt_of_lt_of_le hi (Nat.le_trans hm6 (by decide))
      ·rw [upd_same, rep_succ]
     ·rintro H3 ⟨s3, e3⟩
      refine ⟨Da, _, rfl, SqL.of e3, ?_⟩
      rw [all_true]
      exact q H3 s3
   | @num i h =>
    obtain rfl : sv = .str "number" := hs
    cases hv
    refine ⟨.int i, rfl, rfl, _, rfl, iteF ⟨.int i, rfl, .int i, failD, .int i, fail_dp hF, int_shaped i, failD_shaped, _, rfl, ?_⟩⟩
    rw [failD_no (by intro z; cases z) (.inl ⟨i, rfl⟩)]
    refine iteF ⟨.str "number", rfl, .str "number", .base "number", rfl, rfl, false, rfl, iteF ?_⟩
    refine ⟨.str "number", rfl, _, _, _, _, false, rfl, .ty "tuple", .base (.str _), kit_ty (by decide +kernel), false, rfl, iteF ?_⟩
    exact ⟨.str "number", rfl, rfl, true, blT rfl, iteT ⟨.int i, rfl, i, rfl, h, q H (Same.refl _)⟩⟩
   | @txt t h =>
    obtain rfl : sv = .str "text" := hs
    have hsh := hv.shaped hm
    cases hv
    refine ⟨.str t, rfl, rfl, _, rfl, iteF ⟨.str t, rfl, .str t, failD, .str t, fail_dp hF, hsh, failD_shaped, _, rfl, ?_⟩⟩
    rw [failD_no (by intro z; cases z) (.inr (.inl ⟨t, rfl⟩))]
    refine iteF ⟨.str "text", rfl, .str "text", .base "text", rfl, rfl, false, rfl, iteF ?_⟩
    refine ⟨.str "text", rfl, _, _, _, _, false, rfl, .ty "tuple", .base (.str _), kit_ty (by decide +kernel), false, rfl, iteF ?_⟩
    refine ⟨.str "text", rfl, rfl, false, blF (by decide), iteF ⟨.str "text", rfl, rfl, true, blT rfl, iteT ⟨.str t, rfl, t, rfl, h, q⟩⟩⟩
   | @thg z t k h1 h2 mk hk2 =>
    obtain rfl : sv = .str z := hs
    have hsh := hv.shaped hm
    cases hv
    have hval : valV (kdv kd) (Sum.inr t) = some (V.str k) := valV_map (f := fun p : Str × Str => p.1) (g := fun p => V.str p.2) nd mk
    refine ⟨.str t, rfl, rfl, _, rfl, iteF ⟨.str t, rfl, .str t, failD, .str t, fail_dp hF, hsh, failD_shaped, _, rfl, ?_⟩⟩
    rw [failD_no (by intro z; cases z) (.inr (.inl ⟨t, rfl⟩))]
    refine iteF ⟨.str z, rfl, .str z, .base z, rfl, rfl, false, rfl, iteF ?_⟩
    refine ⟨.str z, rfl, _, _, _, _, false, rfl, .ty "tuple", .base (.str _), kit_ty (by decide +kernel), false, rfl, iteF ?_⟩
    refine ⟨.str z, rfl, rfl, false, blF (fun e => h1 (V.str.inj e)), iteF ⟨.str z, rfl, rfl, false, blF (fun e => h2 (V.str.inj e)), iteF ?_⟩⟩
    refine ⟨.str t, rfl, .ref kt, rfl, .str t, kt, rfl, .inl ⟨t, rfl, .inr ⟨kdv kd, .inl hk, ?_⟩⟩⟩
    rw [hval]
    refine ⟨true, rfl, iteT ⟨.ref kt, rfl, .str t, rfl, kt, _, rfl, .inl ⟨kdv kd, .inr t, .inl hk, rfl, hval.symm⟩, ?_⟩⟩
    refine ⟨.ref x, rfl, x, dx, _, rfl, hx, lkn _ _ _ _ (by decide +kernel) (by decide +kernel) (by decide +kernel) (by decide +kernel), .str z, rfl, x, .str z, ks, fs, us, root, rfl, Bt, ok, .inl ⟨z, rfl, htg, fun l p H2 hl2 s2 np hp2 => ?_⟩⟩
    rw [memF_eq ok.ndu hl2] at hk2
    refine ⟨p, _, rfl, .inl (.of hp2), rfl, flat_map l, ?_⟩
    rw [inV_strs, decide_eq_true hk2]
    exact q H2 s2
end
end NW
namespace NW
open PySem PySem.Spec PyProof.Rows L2
open TL (tl)
structure TRow where
 nm : Str
 kd : Str
 t : Addr
 da : Addr
 vs : List (Str × V × PyData)
def thkv (ths : List TRow) : List (Key × V) := ths.map fun r => ((Sum.inr r.nm : Key), V.ref r.t)
def vkv (vs : List (Str × V × PyData)) : List (Key × V) := vs.map fun f => ((Sum.inr f.1 : Key), f.2.1)
def kdl (ths : List TRow) : List (Str × Str) := ths.map fun r => (r.nm, r.kd)
structure TRow.At (H : Hp) (r : TRow) : Prop where
 t : H r.t = some (.tup [.str r.kd, .ref r.da])
 d : H r.da = some (.dK (vkv r.vs))
 v : ∀ f ∈ r.vs, VA H 4 f.2.1 f.2.2
theorem TRow.At.same {H H' : Hp} {r : TRow} (s : Same H H') (h : r.At H) : r.At H' := ⟨s _ _ h.t, s _ _ h.d, fun f m => (h.v f m).same s⟩
structure StoOk (ks : List KRow) (fs : List FRow) (us : List URow) (root : Str) (ths : List TRow) (first : Str) : Prop where
 n1 : 1 ≤ ths.length
 n12 : ths.length ≤ 12
 nd : (ths.map (·.nm)).Nodup
 nm : ∀ r ∈ ths, IsName r.nm
 kd : ∀ r ∈ ths, r.kd ∈ ks.map (·.nm)
 fd : ∀ r ∈ ths, (r.vs.map (·.1)).Perm ((fdsAt ks fs r.kd).map (·.1))
 ok : ∀ r ∈ ths, ∀ f ∈ r.vs, ∀ fl ∈ fdsAt ks fs r.kd, fl.1 = f.1 → VOk (kdl ths) ks us fl.2.2 f.2.2
 fi : (first, root) ∈ kdl ths
theorem thkv_keys (ths : List TRow) : (thkv ths).map (·.1) = (ths.map (·.nm)).map Sum.inr := keys_map ths (·.nm) (V.ref ·.t)
theorem vkv_keys (vs : List (Str × V × PyData)) : (vkv vs).map (·.1) = (vs.map (·.1)).map Sum.inr := keys_map vs (·.1) (·.2.1)
theorem thkv_val {ths : List TRow} (nd : (ths.map (·.nm)).Nodup) {r : TRow} (m : r ∈ ths) : valV (thkv ths) (Sum.inr r.nm) = some (.ref r.t) := valV_map (f := fun r : TRow => r.nm) (g := fun r => V.ref r.t) nd m
theorem vkv_val {vs : List (Str × V × PyData)} (nd : (vs.map (·.1)).Nodup) {f : Str × V × PyData} (m : f ∈ vs) : valV (vkv vs) (Sum.inr f.1) = some f.2.1 := valV_map (f := fun f : Str × V × PyData => f.1) (g := fun f => f.2.1) nd m
theorem kdl_nd {ths : List TRow} (nd : (ths.map (·.nm)).Nodup) : ((kdl ths).map (·.1)).Nodup := by
 unfold kdl
 rw [List.map_map]
 exact nd
section
variable {ks : List KRow} {fs : List FRow} {us : List URow} {root : Str} {ths : List TRow} {first : Str}
theorem StoOk.fnd (h : StoOk ks fs us root ths first) (ok : SchOk ks fs us root) {r : TRow} (m : r ∈ ths) : (r.vs.map (·.1)).Nodup := (h.fd r m).nodup_iff.mpr ((fds_ex (ks := ks) (fs := fs) (z := r.kd)).nd ok)
theorem StoOk.ffl (h : StoOk ks fs us root ths first) {r : TRow} (m : r ∈ ths) {f : Str × V × PyData} (mf : f ∈ r.vs) : ∃ fl ∈ fdsAt ks fs r.kd, fl.1 = f.1 := by
 obtain ⟨fl, h1, h2⟩ := List.mem_map.mp ((h.fd r m).mem_iff.mp (List.mem_map_of_mem mf))
 exact ⟨fl, h1, h2⟩
end
theorem op_inD {X : Cx} (hu : X.A.units + 1 < cLine) : OpR X (compareOp .In) (fun x y H Q => ∃ a o, y = .ref a ∧ DGet H a x o ∧ Q (.bl o.isSome) H) :=
 fun pins s σ H x y v u Q I rx ry h => op_in_any hu pins s σ H x y v u Q I rx ry (.inr h)
theorem fds_few {ks : List KRow} {fs : List FRow} {us : List URow} {root z : Str} {fds : List Fld} (ok : SchOk ks fs us root) (h : FdsOf ks fs z fds) : fds.length ≤ 5 := by
 rcases h with ⟨k, mk, _, rfl⟩ | ⟨_, f, mf, _, rfl⟩ | ⟨_, _, rfl⟩
 ·exact (ok.kd k mk).n1
 ·exact Nat.le_trans (ok.fd f mf).n1 (by decide)
 ·exact Nat.zero_le _
abbrev s_is_thing : Stmt := topS 46
abbrev N_is_thing : List Str := ["schema", "thing", "kind", "fields", "needed", "field"]
theorem sc_is_thing : FnScope N_is_thing ["schema", "thing"] (defScope s_is_thing) := ⟨rfl, rfl, rfl, by decide +kernel, rfl, by decide +kernel, by decide +kernel⟩
abbrev s_check_things : Stmt := topS 45
abbrev N_check_things : List Str := ["schema", "things", "name"]
theorem sc_check_things : FnScope N_check_things ["schema", "things"] (defScope s_check_things) := ⟨rfl, rfl, rfl, by decide +kernel, rfl, by decide +kernel, by decide +kernel⟩
abbrev s_check_values : Stmt := topS 47
abbrev N_check_values : List Str := ["schema", "kinds", "things", "name", "kind", "fields", "field"]
theorem sc_check_values : FnScope N_check_values ["schema", "kinds", "things"] (defScope s_check_values) := ⟨rfl, rfl, rfl, by decide +kernel, rfl, by decide +kernel, by decide +kernel⟩
section
variable {P : Program} {w : World} {K : PySem.W.Frag} {mg : Str → Option Value} {base : Heap}
def spIsThing (C : Addr) : Sp := fun vs H Q _ => ∃ (x : Addr) (ks : List KRow) (fs : List FRow) (us : List URow) (root : Str) (r : TRow), vs = [.ref x, .ref r.t] ∧
 BuiltAt C H x ks fs us root ∧ SchOk ks fs us root ∧ r.At H ∧ r.kd ∈ ks.map (·.nm) ∧ (r.vs.map (·.1)).Perm ((fdsAt ks fs r.kd).map (·.1)) ∧ ∀ H', Same H H' → Q (.bl true) H'
theorem ok_is_thing {f f1 f2 f3 C CN : Addr} {fd fd1 fd2 fd3 : FuncData} (D : Df K mg "is_thing" s_is_thing f fd ["schema", "thing"]) (D_is_key : Df K mg "is_key" s_is_key f1 fd1 ["name", "table"])
  (M_kinds : Mt K C "kinds" "Schema.kinds" s_Schema_kinds f2 fd2 ["self"]) (G_kinds : FnOk P w K mg base CX0 1 f2 fd2 ["self"] (sp_kinds C)) (M_fields : Mt K C "fields" "Schema.fields" s_Schema_fields f3 fd3 ["self", "base"]) (G_fields : FnOk P w K mg base (L2N.CX P w) 5 f3 fd3 ["self", "base"] (spFields K C CN)) (T : Nms mg) (L : ClT K C) :
  FnOk P w K mg base CX0 6 f fd ["schema", "thing"] (spIsThing C) := by
 have G_is_key : FnOk P w K mg base CX0 1 f1 fd1 ["name", "table"] (spIsKey K) := ok_is_key D_is_key T
 refine D.F.ok sc_is_thing (fun vs H Q E h => ?_) (fun cdv A outer s H vs Q E hr h => ?_)
 ·obtain ⟨x, ks, fs, us, root, r, rfl, _⟩ := h
  rfl
 ·obtain ⟨x, ks, fs, us, root, r, rfl, Bt, ok, At, hkd, hpm, q⟩ := h
  have hu := hu_of hr
  refine ⟨_, (pss_cons (ps_if (PW.pt (pw_or (pt_not (pt_val (pe_callB call_isi (by rfl) T.n_isinstance (by decide +kernel) (pa_cons (pv 1) (pa_cons (pe_bltn (v := .ty "tuple") (by rfl) T.n_tuple (by decide +kernel) rfl) pa_nil))))) (pw_or1 (pt_cmpR op_ne (pe_callB call_len_seq (by rfl) T.n_len (by decide +kernel) (pa_cons (pv 1) pa_nil)) pe_int (nomark _)))))
    (pss_one (ps_ret pe_bl))
    pss_nil)
   (pss_cons (ps_asg (pv 1) (pg_tup (by rfl) (pgs_cons (pg_name (i := 2) sc_is_thing.nd rfl (.inl rfl)) (pgs_cons (pg_name (i := 3) sc_is_thing.nd rfl (.inr rfl)) pgs_nil))))
   (pss_cons (ps_if (PW.pt (pw_or (pt_not (pt_val (pe_call G_is_key (hr.mono (by decide)) (by rfl) D_is_key.g D_is_key.F.kp D_is_key.b .nil pass0 (pa_cons (pv 2) (pa_cons (pe_meth0 (pv 0) L.cl M_kinds.m G_kinds (hr.mono (by decide)) M_kinds.b .nil pass0) pa_nil))))) (pw_or1 (pt_not (pt_val (pe_callB call_isi (by rfl) T.n_isinstance (by decide +kernel) (pa_cons (pv 3) (pa_cons (pe_bltn (v := .ty "dict") (by rfl) T.n_dict (by decide +kernel) rfl) pa_nil))))))))
    (pss_one (ps_ret pe_bl))
    pss_nil)
   (pss_cons (ps_set (i := 4) sc_is_thing.nd rfl (.inl rfl) (pe_meth (pv 0) L.cl M_fields.m G_fields (hr.mono (by decide)) M_fields.b .nil passA (pa_cons (pv 2) pa_nil)))
   (pss_one (ps_ret (pe_and (pe_cmpR op_eq (pe_callB call_lenD (by rfl) T.n_len (by decide +kernel) (pa_cons (pv 3) pa_nil)) (pe_callB call_len_seq (by rfl) T.n_len (by decide +kernel) (pa_cons (pv 4) pa_nil)) (nomark _)) (pe_one (pe_callB (cr_all rfl) (by rfl) T.n_all (by decide +kernel) (pa_cons (pe_lc (own := [("field", 5)]) (g := (gName 5)) (tt := tYes) rfl sc_is_thing.nd (pi_list (pv 4)) (blkOk_by (own := [("field", 5)]) (N := N_is_thing) (sc := defScope s_is_thing) (by decide +kernel)) (fun _ _ _ _ _ => (pg_name (i := 5) sc_is_thing.nd rfl (.inl rfl))) (fun _ _ _ _ _ => pts_nil) (fun _ _ _ _ _ => (pe_cmpR (op_inD hu) (pv 5) (pv 3) (by rfl)))) pa_nil)))))))))), ?_⟩
  obtain ⟨dx, kt', ft', ut', _, _, _, hx, _⟩ := id Bt
  have hT : SqT K H r.t [.str r.kd, .ref r.da] := .of At.t
  have k1 := ok.k1
  have f1' := ok.f1
  have u1' := ok.u1
  refine ⟨.ref r.t, rfl, _, _, _, _, true, rfl, .ty "tuple", .base (.tup At.t), kit_ty (by decide +kernel), true, rfl, iteF ⟨.ref r.t, rfl, r.t, _, rfl, .inr hT, rfl, false, blNF rfl, iteF ?_⟩⟩
  refine ⟨.ref r.t, rfl, r.t, _, rfl, hT, rfl, .str r.kd, _, rfl, .ref r.da, _, rfl, rfl, ?_⟩
  refine ⟨.str r.kd, rfl, .ref x, rfl, x, dx, _, rfl, hx, lkn _ _ _ _ (by decide +kernel) (by decide +kernel) (by decide +kernel) (by decide +kernel), x, ks, fs, us, root, rfl, Bt, k1, f1', u1', fun ys p H1 pm so s1 np hp => ?_⟩
  refine ⟨.str r.kd, p, rfl, .inl ⟨r.kd, rfl, .inl ⟨ys, .inl (.of hp), ?_⟩⟩⟩
  rw [decide_eq_true (pm.mem_iff.mpr hkd)]
  have hkb : r.kd ∈ bsOf ks fs us := List.mem_append_right _ (List.mem_append_left _ hkd)
  refine ⟨true, rfl, iteF ⟨.ref r.da, rfl, _, _, _, _, true, rfl, .ty "dict", .base (.dK (s1 _ _ At.d)), kit_ty (by decide +kernel), true, rfl, iteF ?_⟩⟩
  refine ⟨.ref x, rfl, x, dx, _, rfl, s1 _ _ hx, lkn _ _ _ _ (by decide +kernel) (by decide +kernel) (by decide +kernel) (by decide +kernel), .str r.kd, rfl, x, .str r.kd, ks, fs, us, root, rfl, Bt.same s1, ok, .inl ⟨r.kd, rfl, hkb, fun fds l p2 H2 hf pl so2 s2 np2 hp2 => ?_⟩⟩
  have sA := s1.trans s2
  have pl2 : l.Perm (r.vs.map (·.1)) := by
   rw [fds_eq ok hf] at pl
   exact pl.trans hpm.symm
  have lv : (vkv r.vs).length = l.length := by
   rw [pl2.length_eq, List.length_map]
   exact List.length_map ..
  have nd : (r.vs.map (·.1)).Nodup := hpm.nodup_iff.mpr ((fds_ex (ks := ks) (fs := fs) (z := r.kd)).nd ok)
  have few : l.length ≤ 1000 := by
   rw [pl.length_eq, List.length_map]
   have := (fds_few ok hf)
   omega
  refine ⟨.ref r.da, rfl, r.da, vkv r.vs, rfl, sA _ _ At.d, .ref p2, rfl, p2, _, rfl, .inl (.of hp2), rfl, true, ?_, iteT ⟨.ref p2, rfl, p2, rfl, ⟨_, .of hp2⟩, fun Da nD => ?_⟩⟩
  ·show V.bl (decide (V.int ((vkv r.vs).length : Int) = V.int ((l.map V.str).length : Int))) = V.bl true
   rw [List.length_map, lv, decide_eq_true rfl]
  ·refine lc_all (walk_list (xs := l.map V.str)) (fun i x => ∃ z, l[i]? = some z ∧ x = .str z) ?_ (fun H sm => .of (sm _ _ hp2)) nD (by rw [List.length_map]; exact few) (fun _ => rfl) ?_ ?_
   ·rintro i H x H' hi ⟨rfl, e⟩
    rw [List.getElem?_map] at e
    cases e3 : l[i]? with
    | none => rw [e3] at e; cases e
    | some z =>
     rw [e3] at e
     cases e
     exact ⟨rfl, z, rfl, rfl⟩
   ·rintro i x H2 Q2 hi ⟨z, ez, rfl⟩ sm k
    obtain ⟨fv, mf, rfl⟩ := List.mem_map.mp (pl2.mem_iff.mp (List.mem_of_getElem? ez))
    refine ⟨.str fv.1, rfl, .ref r.da, rfl, r.da, _, rfl, .inl ⟨vkv r.vs, .inr fv.1, .inl (sm _ _ (sA _ _ At.d)), rfl, rfl⟩, ?_⟩
    rw [vkv_val nd mf]
    exact k _ (Same.refl _)
   ·intro H3 sm e3
    refine ⟨Da, List.replicate (l.map V.str).length true, rfl, SqL.of e3, ?_⟩
    rw [all_true]
    exact q _ (sA.trans sm)
end
end NW
namespace NW
open PySem PySem.Spec PyProof.Rows L2
open TL (tl)
abbrev s_check_store : Stmt := topS 44
abbrev N_check_store : List Str := ["schema", "things", "first", "kinds", "name"]
theorem sc_check_store : FnScope N_check_store ["schema", "things", "first"] (defScope s_check_store) := ⟨rfl, rfl, rfl, by decide +kernel, rfl, by decide +kernel, by decide +kernel⟩
section
variable {P : Program} {w : World} {K : PySem.W.Frag} {mg : Str → Option Value} {base : Heap}
def spCheckThings (C : Addr) : Sp := fun vs H Q _ => ∃ (x tt : Addr) (ks : List KRow) (fs : List FRow) (us : List URow) (root : Str) (ths : List TRow) (first : Str), vs = [.ref x, .ref tt] ∧
 BuiltAt C H x ks fs us root ∧ SchOk ks fs us root ∧ H tt = some (.dK (thkv ths)) ∧ (∀ r ∈ ths, r.At H) ∧ StoOk ks fs us root ths first ∧ ∀ H', Same H H' → Q .non H'
theorem ok_check_things {f f1 C : Addr} {fd fd1 : FuncData} (D : Df K mg "check_things" s_check_things f fd ["schema", "things"]) (D_is_thing : Df K mg "is_thing" s_is_thing f1 fd1 ["schema", "thing"]) (G_is_thing : FnOk P w K mg base CX0 6 f1 fd1 ["schema", "thing"] (spIsThing C)) (T : Nms mg) :
  FnOk P w K mg base CX0 7 f fd ["schema", "things"] (spCheckThings C) := by
 refine D.F.ok sc_check_things (fun vs H Q E h => ?_) (fun cdv A outer s H vs Q E hr h => ?_)
 ·obtain ⟨x, tt, ks, fs, us, root, ths, first, rfl, _⟩ := h
  rfl
 ·obtain ⟨x, tt, ks, fs, us, root, ths, first, rfl, Bt, ok, ht, At, so, q⟩ := h
  have hu := hu_of hr
  refine ⟨_, (pss_one (ps_for PassesOwn.never rfl (pi_list (pe_callB (call_sortedD rfl) (by rfl) T.n_sorted (by decide +kernel) (pa_cons (pv 1) pa_nil))) (pg_name (i := 2) sc_check_things.nd rfl (.inl rfl))
    (pss_one (ps_if (pt_not (pt_val (pe_call G_is_thing (hr.mono (by decide)) (by rfl) D_is_thing.g D_is_thing.F.kp D_is_thing.b .nil pass0 (pa_cons (pv 0) (pa_cons (pe_dget hu (pv 1) (pv 2) (fun _ _ => rfl)) pa_nil)))))
     (pss_one ps_never)
     pss_nil)))), ?_⟩
  have n12 := so.n12
  refine ⟨.ref tt, rfl, tt, thkv ths, ths.map (·.nm), rfl, .inl ht, thkv_keys ths, by rw [List.length_map]; omega, fun ys p pm srt np => ⟨p, rfl, ⟨_, SqL.of upd_same⟩, ?_⟩⟩
  refine for_list (xs := ys.map V.str) (fun i σ H' => ∃ y, σ = [some (.ref x), some (.ref tt), y] ∧ Same (upd H p (.lst (ys.map V.str))) H') ⟨none, rfl, Same.refl _⟩ (fun i σ H' _ h => by obtain ⟨y, _, sm⟩ := h; exact SqL.of (sm _ _ upd_same)) ?_ ?_
  ·rintro i u σ H3 ex ⟨y, rfl, sm⟩
   obtain ⟨z, hz, rfl⟩ := List.mem_map.mp (List.mem_of_getElem? ex)
   obtain ⟨r, mr, rfl⟩ := List.mem_map.mp (pm.mem_iff.mp hz)
   have smA : Same H H3 := (same_new np).trans sm
   exact ⟨.ref x, rfl, .ref tt, rfl, .str r.nm, rfl, tt, _, rfl, .inl ⟨thkv ths, .inr r.nm, .inl (smA _ _ ht), rfl, (thkv_val so.nd mr).symm⟩, x, ks, fs, us, root, r, rfl, Bt.same smA, ok, (At r mr).same smA, so.kd r mr, so.fd r mr, fun H4 s4 => ⟨true, rfl, iteF ⟨_, rfl, sm.trans s4⟩⟩⟩
  ·rintro σ H3 ⟨y, rfl, sm⟩
   exact q _ ((same_new np).trans sm)
def spCheckValues (C : Addr) : Sp := fun vs H Q _ => ∃ (x kt tt : Addr) (ks : List KRow) (fs : List FRow) (us : List URow) (root : Str) (ths : List TRow) (first : Str), vs = [.ref x, .ref kt, .ref tt] ∧
 BuiltAt C H x ks fs us root ∧ SchOk ks fs us root ∧ H kt = some (.dK (kdv (kdl ths))) ∧ H tt = some (.dK (thkv ths)) ∧ (∀ r ∈ ths, r.At H) ∧ StoOk ks fs us root ths first ∧ ∀ H', Same H H' → Q .non H'
theorem ok_check_values {f f1 f2 C CN CF : Addr} {fd fd1 fd2 : FuncData} (D : Df K mg "check_values" s_check_values f fd ["schema", "kinds", "things"]) (D_is_value : Df K mg "is_value" s_is_value f1 fd1 ["schema", "kinds", "shape", "value"]) (G_is_value : FnOk P w K mg base CX0 9 f1 fd1 ["schema", "kinds", "shape", "value"] (spIsVal C 4))
  (M_shape_of : Mt K C "shape_of" "Schema.shape_of" s_Schema_shape_of f2 fd2 ["self", "base", "field"]) (G_shape_of : FnOk P w K mg base (L2N.CX P w) 5 f2 fd2 ["self", "base", "field"] (spShapeOf K C CN CF)) (T : Nms mg) (L : ClT K C) :
  FnOk P w K mg base CX0 10 f fd ["schema", "kinds", "things"] (spCheckValues C) := by
 refine D.F.ok sc_check_values (fun vs H Q E h => ?_) (fun cdv A outer s H vs Q E hr h => ?_)
 ·obtain ⟨x, kt, tt, ks, fs, us, root, ths, first, rfl, _⟩ := h
  rfl
 ·obtain ⟨x, kt, tt, ks, fs, us, root, ths, first, rfl, Bt, ok, hk, ht, At, so, q⟩ := h
  have hu := hu_of hr
  refine ⟨_, (pss_one (ps_for PassesOwn.never rfl (pi_list (pe_callB (call_sortedD rfl) (by rfl) T.n_sorted (by decide +kernel) (pa_cons (pv 2) pa_nil))) (pg_name (i := 3) sc_check_values.nd rfl (.inl rfl))
    (pss_cons (ps_asg (pe_dget hu (pv 2) (pv 3) (fun _ _ => rfl)) (pg_tup (by rfl) (pgs_cons (pg_name (i := 4) sc_check_values.nd rfl (.inl rfl)) (pgs_cons (pg_name (i := 5) sc_check_values.nd rfl (.inl rfl)) pgs_nil))))
    (pss_one (ps_for PassesOwn.never rfl (pi_list (pe_callB (call_sortedD rfl) (by rfl) T.n_sorted (by decide +kernel) (pa_cons (pv 5) pa_nil))) (pg_name (i := 6) sc_check_values.nd rfl (.inl rfl))
     (pss_one (ps_if (pt_not (pt_val (pe_call G_is_value (hr.mono (by decide)) (by rfl) D_is_value.g D_is_value.F.kp D_is_value.b .nil pass0 (pa_cons (pv 0) (pa_cons (pv 1) (pa_cons (pe_meth (pv 0) L.cl M_shape_of.m G_shape_of (hr.mono (by decide)) M_shape_of.b .nil passA (pa_cons (pv 4) (pa_cons (pv 6) pa_nil))) (pa_cons (pe_dget hu (pv 5) (pv 6) (fun _ _ => rfl)) pa_nil)))))))
      (pss_one ps_never)
      pss_nil))))))), ?_⟩
  have n12 := so.n12
  obtain ⟨dx, kt', ft', ut', _, _, _, hx, _⟩ := id Bt
  refine ⟨.ref tt, rfl, tt, thkv ths, ths.map (·.nm), rfl, .inl ht, thkv_keys ths, by rw [List.length_map]; omega, fun ys p pm srt np => ⟨p, rfl, ⟨_, SqL.of upd_same⟩, ?_⟩⟩
  refine for_list (xs := ys.map V.str) (fun i σ H' => ∃ y1 y2 y3 y4, σ = [some (.ref x), some (.ref kt), some (.ref tt), y1, y2, y3, y4] ∧ Same (upd H p (.lst (ys.map V.str))) H') ⟨none, none, none, none, rfl, Same.refl _⟩ (fun i σ H' _ h => by obtain ⟨_, _, _, _, _, sm⟩ := h; exact SqL.of (sm _ _ upd_same)) ?_ ?_
  ·rintro i u σ H3 ex ⟨y1, y2, y3, y4, rfl, sm⟩
   obtain ⟨z, hz, rfl⟩ := List.mem_map.mp (List.mem_of_getElem? ex)
   obtain ⟨r, mr, rfl⟩ := List.mem_map.mp (pm.mem_iff.mp hz)
   have smA : Same H H3 := (same_new np).trans sm
   have A3 := (At r mr).same smA
   have hkb : r.kd ∈ bsOf ks fs us := List.mem_append_right _ (List.mem_append_left _ (so.kd r mr))
   have few : (r.vs.map (·.1)).length < 64 := by
    rw [(so.fd r mr).length_eq, List.length_map]
    have := fds_few ok (fds_ex (ks := ks) (fs := fs) (z := r.kd))
    omega
   refine ⟨.ref tt, rfl, .str r.nm, rfl, tt, _, rfl, .inl ⟨thkv ths, .inr r.nm, .inl (smA _ _ ht), rfl, (thkv_val so.nd mr).symm⟩, r.t, _, rfl, .of A3.t, rfl, .str r.kd, _, rfl, .ref r.da, _, rfl, rfl, ?_⟩
   refine ⟨.ref r.da, rfl, r.da, vkv r.vs, r.vs.map (·.1), rfl, .inl A3.d, vkv_keys r.vs, few, fun zs p2 pm2 srt2 np2 => ⟨p2, rfl, ⟨_, SqL.of upd_same⟩, ?_⟩⟩
   refine for_list (xs := zs.map V.str) (fun i σ H' => ∃ y4, σ = [some (.ref x), some (.ref kt), some (.ref tt), some (.str r.nm), some (.str r.kd), some (.ref r.da), y4] ∧ Same (upd H3 p2 (.lst (zs.map V.str))) H') ⟨y4, rfl, Same.refl _⟩ (fun i σ H' _ h => by obtain ⟨_, _, sm⟩ := h; exact SqL.of (sm _ _ upd_same)) ?_ ?_
   ·rintro j u σ H4 ex2 ⟨y5, rfl, sm4⟩
    obtain ⟨z2, hz2, rfl⟩ := List.mem_map.mp (List.mem_of_getElem? ex2)
    obtain ⟨fv, mf, rfl⟩ := List.mem_map.mp (pm2.mem_iff.mp hz2)
    have s34 : Same H3 H4 := (same_new np2).trans sm4
    have sB : Same H H4 := smA.trans s34
    obtain ⟨fl, ml, efl⟩ := so.ffl mr mf
    have vok := so.ok r mr fv mf fl ml efl
    have hok := FdsOf.ok (us := us) ok (fds_ex (ks := ks) (fs := fs) (z := r.kd)) ml
    refine ⟨.ref x, rfl, .ref kt, rfl, .ref x, rfl, x, dx, _, rfl, sB _ _ hx, lkn _ _ _ _ (by decide +kernel) (by decide +kernel) (by decide +kernel) (by decide +kernel), .str r.kd, rfl, .str fv.1, rfl, x, .str r.kd, .str fv.1, ks, fs, us, root, rfl, Bt.same sB, ok, .inl ⟨r.kd, rfl, hkb, fun fds hf => .inl ⟨fv.1, rfl, .inl ⟨fl, by rw [fds_eq ok hf]; exact ml, efl, fun H5 s5 sh5 => ?_⟩⟩⟩⟩
    have A5 := (At r mr).same (sB.trans s5)
    refine ⟨.ref r.da, rfl, .str fv.1, rfl, r.da, _, rfl, .inl ⟨vkv r.vs, .inr fv.1, .inl A5.d, rfl, (vkv_val (so.fnd ok mr) mf).symm⟩, ?_⟩
    exact ⟨x, kt, fl.2.1, fv.2.1, ks, fs, us, root, kdl ths, fl.2.2, 4, fv.2.2, rfl, Bt.same (sB.trans s5), ok, (sB.trans s5) _ _ hk, kdl_nd so.nd, sh5, okS_dep hok, okS_tgt hok, A5.v fv mf, by decide, vok, fun H6 s6 => ⟨true, rfl, iteF ⟨_, rfl, (sm4.trans s5).trans s6⟩⟩⟩
   ·rintro σ H4 ⟨y5, rfl, sm4⟩
    exact ⟨_, _, _, _, rfl, (sm.trans (same_new np2)).trans sm4⟩
  ·rintro σ H3 ⟨y1, y2, y3, y4, rfl, sm⟩
   exact q _ ((same_new np).trans sm)
end
end NW
namespace NW
open PySem PySem.Spec PyProof.Rows L2
open TL (tl)
theorem VA.gr {a : Addr} {H H' : Hp} (hl : ∀ xs, H a ≠ some (.lst xs)) (ht : ∀ xs, H a ≠ some (.tup xs)) (g : ∀ b o, b ≠ a → H b = some o → H' b = some o) : ∀ {n : Nat} {v : V} {d : PyData}, VA H n v d → VA H' n v d := by
 intro n v d h
 induction h with
 | non n => exact .non n
 | @fail n b e => exact .fail n (g _ _ (fun z => ht _ (z ▸ e)) e)
 | num n i => exact .num n i
 | txt n h l => exact .txt n h l
 | @lst n b xs ds e l hm _ ih => exact .lst n (g _ _ (fun z => hl _ (z ▸ e)) e) l hm ih
def vdat (vs : List (Str × V × PyData)) : List (Str × PyData) := vs.map fun f => (f.1, f.2.2)
theorem vdat_names (vs : List (Str × V × PyData)) : (vdat vs).map (·.1) = vs.map (·.1) := by
 unfold vdat
 rw [List.map_map]
 rfl
theorem vkv_at {vs : List (Str × V × PyData)} {i : Nat} {k : Key} {v : V} (e : (vkv vs)[i]? = some (k, v)) : ∃ r, vs[i]? = some r ∧ k = Sum.inr r.1 ∧ v = r.2.1 := by
 unfold vkv at e
 rw [List.getElem?_map] at e
 cases h : vs[i]? with
 | none => rw [h] at e; cases e
 | some f =>
  rw [h] at e
  cases e
  exact ⟨f, rfl, rfl, rfl⟩
theorem nd_takeS {vs : List (Str × V × PyData)} (nd : (vs.map (·.1)).Nodup) {i : Nat} {f : Str × V × PyData} (e : vs[i]? = some f) : f.1 ∉ (vs.map (·.1)).take i := fun m => by
 obtain ⟨j, hj, ej⟩ := List.getElem_of_mem m
 rw [List.length_take] at hj
 obtain ⟨hi, ei⟩ := List.getElem?_eq_some_iff.mp e
 rw [List.getElem_take, List.getElem_map] at ej
 have h1 : (vs.map (·.1))[j]'(by rw [List.length_map]; omega) = (vs.map (·.1))[i]'(by rw [List.length_map]; exact hi) := by
  rw [List.getElem_map, List.getElem_map, ej, ei]
 have := (List.getElem_inj nd).mp h1
 omega
abbrev s_copied_fields : Stmt := topS 54
abbrev N_copied_fields : List Str := ["fields", "field"]
theorem sc_copied_fields : FnScope N_copied_fields ["fields"] (defScope s_copied_fields) := ⟨rfl, rfl, rfl, by decide +kernel, rfl, by decide +kernel, by decide +kernel⟩
section
variable {P : Program} {w : World} {K : PySem.W.Frag} {mg : Str → Option Value} {base : Heap}
def spCopyF : Sp := fun vs H Q _ => ∃ (a : Addr) (fv : List (Str × V × PyData)), vs = [.ref a] ∧ H a = some (.dK (vkv fv)) ∧ (fv.map (·.1)).Nodup ∧ fv.length ≤ 1000 ∧ (∀ f ∈ fv, VA H 4 f.2.1 f.2.2) ∧
 ∀ (D : Addr) (gv : List (Str × V × PyData)) H', Same H H' → H D = none → H' D = some (.dK (vkv gv)) → vdat gv = vdat fv → (∀ g ∈ gv, VA (nw H H') 4 g.2.1 g.2.2) → Q (.ref D) H'
theorem ok_copied_fields {f f1 : Addr} {fd fd1 : FuncData} (D : Df K mg "copied_fields" s_copied_fields f fd ["fields"]) (D_copied : Df K mg "copied" s_copied f1 fd1 ["value"]) (T : Nms mg) : FnOk P w K mg base CX0 6 f fd ["fields"] spCopyF := by
 have G_copied : FnOk P w K mg base CX0 5 f1 fd1 ["value"] (spCopied 4) := ok_copied D_copied T 4
 refine D.F.ok sc_copied_fields (fun vs H Q E h => ?_) (fun cdv A outer s H vs Q E hr h => ?_)
 ·obtain ⟨a, fv, rfl, _⟩ := h
  rfl
 ·obtain ⟨a, fv, rfl, ha, nd, few, hv, q⟩ := h
  have hu := hu_of hr
  refine ⟨_, (pss_one (ps_ret (pe_lock (pe_dc (own := [("field", 1)]) (g := (gName 1)) (tt := tYes) rfl sc_copied_fields.nd (pi_keys (pv 0)) (blkOk_by (own := [("field", 1)]) (N := N_copied_fields) (sc := defScope s_copied_fields) (by decide +kernel)) (fun _ _ _ _ _ => (pg_name (i := 1) sc_copied_fields.nd rfl (.inl rfl))) (fun _ _ _ _ _ => pts_nil) (fun _ _ _ _ _ => (pv 1)) (fun _ _ _ _ _ => (pe_call G_copied (hr.mono (by decide)) (by rfl) D_copied.g D_copied.F.kp D_copied.b .nil pass0 (pa_cons (pe_dget hu (pv 0) (pv 1) (fun _ _ => rfl)) pa_nil))))))), ?_⟩
  refine ⟨a, .dK (vkv fv), ha, trivial, fun od => ⟨.ref a, rfl, a, od, rfl, .inl ⟨vkv fv, upd_same, fun Da nD => ?_⟩⟩⟩
  have hln : (vkv fv).length = fv.length := List.length_map ..
  have nDa : Da ≠ a := fun z => by rw [z, upd_same] at nD; cases nD
  have nDH : H Da = none := by rw [upd_ne nDa] at nD; exact nD
  have lk : ∀ b o, b ≠ a → H b = some o → (upd H a (.frz od (.dK (vkv fv)))) b = some o := fun b o n e => by rw [upd_ne n]; exact e
  have n1 : ∀ xs, H a ≠ some (.lst xs) := fun xs e => by rw [ha] at e; cases e
  have n2 : ∀ xs, H a ≠ some (.tup xs) := fun xs e => by rw [ha] at e; cases e
  refine dc_it walk_keys (fun i H3 => Same (upd H a (.frz od (.dK (vkv fv)))) H3 ∧ ∃ gv, gv.length = i ∧ vdat gv = (vdat fv).take i ∧ (∀ g ∈ gv, VA (nw (upd (upd H a (.frz od (.dK (vkv fv)))) Da (.dK [])) H3) 4 g.2.1 g.2.2) ∧ H3 Da = some (.dK (vkv gv)))
   ⟨same_new nD, [], rfl, rfl, (fun g m => nomatch (show g ∈ ([] : List (Str × V × PyData)) from m)), upd_same⟩ (fun i H _ p => p.1 _ _ upd_same) ?_ ?_
  ·rintro i y H2 H3 hi ⟨sm, gv, hl, hg, hat, eD⟩ ⟨rfl, k, v, e, rfl⟩
   obtain ⟨fl, ef, rfl, rfl⟩ := vkv_at e
   have mf := List.mem_of_getElem? ef
   have rk : Rd H3 a (.dK (vkv fv)) := .inr ⟨od, sm _ _ upd_same⟩
   refine ⟨rfl, lcT ⟨.str fl.1, rfl, .ref a, rfl, .str fl.1, rfl, a, _, rfl, .inl ⟨vkv fv, .inr fl.1, rk, rfl, (vkv_val nd mf).symm⟩, fl.2.1, fl.2.2, rfl, ((hv fl mf).gr n1 n2 lk).same sm, fun v' H4 s4 va => ?_⟩⟩
   have eD4 := s4 _ _ eD
   have g1 : Same (nw (upd (upd H a (.frz od (.dK (vkv fv)))) Da (.dK [])) H4) (nw (upd (upd H a (.frz od (.dK (vkv fv)))) Da (.dK [])) (upd H4 Da (.dK (putK (vkv gv) (Sum.inr fl.1) v')))) := nw_go fun b o hb e4 => by
    by_cases h : b = Da
    ·subst h; rw [upd_same] at hb; cases hb
    ·rw [upd_ne h]; exact e4
   refine ⟨vkv gv, .inr fl.1, rfl, eD4, ?_, same_upd (sm.trans s4) nD, gv ++ [(fl.1, v', fl.2.2)], ?_, ?_, ?_, ?_⟩
   ·rw [show (vkv gv).length = gv.length from List.length_map ..]
    exact Nat.lt_of_le_of_lt (show gv.length ≤ 1000 by omega) (by decide)
   ·rw [List.length_append, hl]; rfl
   ·have e1 : (vdat fv)[i]? = some (fl.1, fl.2.2) := by
     unfold vdat
     rw [List.getElem?_map, ef]
     rfl
    rw [List.take_succ, e1, ← hg]
    exact List.map_append ..
   ·intro g mg
    rcases List.mem_append.mp mg with mg | mg
    ·exact (hat g mg).same (Same.trans (nw_go fun b o hb e4 => s4 _ _ e4) g1)
    ·obtain rfl := List.mem_singleton.mp mg
     refine va.same (Same.trans (nw_in (fun b hb => ?_) (fun b zs hb => ?_) (Same.tk s4)) g1)
     ·by_cases h : b = Da
      ·subst h; rw [eD] at hb; cases hb
      ·rw [upd_ne h]; exact sm.free hb
     ·have h : b ≠ Da := ne_of hb eD (by intro z; cases z)
      rw [upd_ne h]
      cases q0 : (upd H a (.frz od (.dK (vkv fv)))) b with
      | none => exact .inl rfl
      | some o => exact .inr ((sm _ _ q0).symm.trans hb)
   ·rw [upd_same]
    have hn : fl.1 ∉ gv.map (fun f : Str × V × PyData => f.1) := by
     have e2 : gv.map (fun f : Str × V × PyData => f.1) = (fv.map (·.1)).take i := by
      have := congrArg (List.map (·.1)) hg
      rw [vdat_names, List.map_take, vdat_names] at this
      exact this
     rw [e2]
     exact nd_takeS nd ef
    exact congrArg (fun z => some (HO.dK z)) (put_snoc (f := fun f : Str × V × PyData => f.1) (g := fun f => f.2.1) (r := (fl.1, v', fl.2.2)) hn)
  ·rintro H2 ⟨sm, gv, hl, hg, hat, eD⟩
   refine ⟨sm _ _ upd_same, ?_⟩
   have su : Same H (upd H2 a (.dK (vkv fv))) := same_unlock ha sm
   refine q Da gv _ su nDH (by rw [upd_ne nDa]; exact eD) (by rw [hg, hln]; exact List.take_of_length_le (by rw [show (vdat fv).length = fv.length from List.length_map ..]; exact Nat.le_refl _)) fun g mg => (hat g mg).same fun b o e => ?_
   rcases nw_some e with ⟨hb, e1⟩ | ⟨xs, hb, rfl⟩
   ·have h1 : b ≠ Da := fun z => by rw [z, upd_same] at hb; cases hb
    rw [upd_ne h1] at hb
    have h2 : b ≠ a := fun z => by rw [z, upd_same] at hb; cases hb
    rw [upd_ne h2] at hb
    rw [nw_new hb, upd_ne h2]
    exact e1
   ·have h1 : b ≠ Da := fun z => by rw [z, upd_same] at hb; cases hb
    rw [upd_ne h1] at hb
    have h2 : b ≠ a := fun z => by rw [z, upd_same] at hb; cases hb
    rw [upd_ne h2] at hb
    exact nw_tup hb
end
end NW
namespace NW
open PySem PySem.Spec PyProof.Rows L2
section
variable {X : Cx}
theorem ps_setDc {j : Nat} {nm : Str} {np : Pos} {ke ve tge ite : Expr} {tests : List Expr} {scp : Scope} {mine : List (Str × Nat)} {ps sp : Pos} {wi : TI} {g : TG} {tt : TT} {tk tv : TE} (calm : X.calm = true) (nod : X.N.Nodup) (hj : X.N[j]? = some nm) (loc : X.env.scope.names.lookup nm = some .local)
  (sw : swapsWith (.DictComp ke ve [⟨tge, ite, tests, 0⟩] scp ps) (some (.Name nm np)) sp.line X.env = pure true) (src : PI X tge ite wi) (blk : BlkOk X.N X.env.scope scp mine)
  (pg : ∀ (s : Shared) (H : Hp) (C : Addr) (cl : List (Str × Addr)) (fp : List Addr), PG (X.blk s H scp (compEnvC scp cl C X.env) fp) tge g) (pt : ∀ (s : Shared) (H : Hp) (C : Addr) (cl : List (Str × Addr)) (fp : List Addr), PTs (X.blk s H scp (compEnvC scp cl C X.env) fp) tests tt)
  (pk : ∀ (s : Shared) (H : Hp) (C : Addr) (cl : List (Str × Addr)) (fp : List Addr), PE (X.blk s H scp (compEnvC scp cl C X.env) fp) ke tk) (pv : ∀ (s : Shared) (H : Hp) (C : Addr) (cl : List (Str × Addr)) (fp : List Addr), PE (X.blk s H scp (compEnvC scp cl C X.env) fp) ve tv)
  (plain : ∀ x, foldedSetIterable ite X.env x = pure x := by intro _; rfl) : PS X (.Assign [.Name nm np] (.DictComp ke ve [⟨tge, ite, tests, 0⟩] scp ps) sp) (tAsg (tDc wi g tt tk tv (mine.map (·.2))) (gName j)) := by
 refine ⟨fun pins s σ H D I w => ?_⟩
 have w : tDc wi g tt tk tv (mine.map (·.2)) σ H (fun x H1 => gName j x σ H1 D.nx) := w
 rw [exec_Assign_Name_used _ _ _ _ sw]
 refine wpAny_bind (wpAny_standAt (wpAny_bind ?_))
 show wpAny _ X.A (do let _ ← comprehension (.DictComp ke ve [⟨tge, ite, tests, 0⟩] scp ps) scp X.env (firstIterPos [⟨tge, ite, tests, 0⟩] ps) newDict false (eval ite X.env) (some (assign (.Name nm np) X.env))) _ _ s
 refine wpAny_bind (thn (dc_core (Qf := fun _ t => SP X pins D .next t) calm nod I src blk pg pt pk pv plain w fun L C t m G K q hn f => ?_) fun _ t r => wpAny_pure (wpAny_pure r))
 obtain ⟨f0, f1, f2, f3, f4, f5⟩ := f
 show wpAny _ _ (assign (.Name nm np) X.env (.ref L)) _ _ _
 refine wpAny_assign_Name (store_ok2 (v := V.ref L) K nod hj (.inl loc) rfl (fun t2 K2 ⟨a, sb, ha⟩ => ?_) (.inr loc))
 have apart : C ≠ a := by
  rcases ha with z | z
  ·exact fun e => f1 (e.trans z)
  ·exact fun e => f4 nm a z e.symm
 exact ⟨m, hn.sameBut sb apart, fun h3 sb3 => ⟨_, G, K2.turned (t' := t2.toks) (fun b o hb e => (sb3.2 b hb).trans e) f0 f1 f3 f4 f5, q⟩⟩
theorem sw_trueD {ke ve : Expr} {gs : List Comprehension} {scp : Scope} {pos py : Pos} {y : Str} {l : Nat} {env : Env} (hk : env.scope.kind = .function) (hy : env.scope.names.lookup y = some .local) (hl : (py.line == pos.line) = true)
  (ha : (scp.names.any fun (n, k) => n == y && (k == .local || k == .cell)) = false) : swapsWith (.DictComp ke ve gs scp pos) (some (.Name y py)) l env = pure true := by
 have bk : env.blockKind = .function := by unfold Env.blockKind; rw [hk]; rfl
 have ky : env.kindOf y = some .local := hy
 unfold swapsWith
 simp only [bk, ky, ha, Expr.pos, hl]
 rfl
end
end NW
namespace NW
open PySem PySem.Spec PyProof.Rows L2
open TL (tl)
theorem thkv_at {ths : List TRow} {i : Nat} {k : Key} {v : V} (e : (thkv ths)[i]? = some (k, v)) : ∃ r, ths[i]? = some r ∧ k = Sum.inr r.nm ∧ v = .ref r.t := by
 unfold thkv at e
 rw [List.getElem?_map] at e
 cases h : ths[i]? with
 | none => rw [h] at e; cases e
 | some f =>
  rw [h] at e
  cases e
  exact ⟨f, rfl, rfl, rfl⟩
section
variable {P : Program} {w : World} {K : PySem.W.Frag} {mg : Str → Option Value} {base : Heap}
def spCheckStore (C : Addr) : Sp := fun vs H Q _ => ∃ (x tt : Addr) (ks : List KRow) (fs : List FRow) (us : List URow) (root : Str) (ths : List TRow) (first : Str), vs = [.ref x, .ref tt, .str first] ∧
 BuiltAt C H x ks fs us root ∧ SchOk ks fs us root ∧ H tt = some (.dK (thkv ths)) ∧ (∀ r ∈ ths, r.At H) ∧ StoOk ks fs us root ths first ∧ ∀ H', Same H H' → Q .non H'
theorem ok_check_store {f f1 f2 f3 f4 f5 C : Addr} {fd fd1 fd2 fd3 fd4 fd5 : FuncData} (D : Df K mg "check_store" s_check_store f fd ["schema", "things", "first"]) (D_is_table : Df K mg "is_table" s_is_table f1 fd1 ["table", "least", "most", "taken"]) (D_is_name : Df K mg "is_name" s_is_name f2 fd2 ["word"])
  (D_is_key : Df K mg "is_key" s_is_key f3 fd3 ["name", "table"]) (D_check_things : Df K mg "check_things" s_check_things f4 fd4 ["schema", "things"]) (G_check_things : FnOk P w K mg base CX0 7 f4 fd4 ["schema", "things"] (spCheckThings C))
  (D_check_values : Df K mg "check_values" s_check_values f5 fd5 ["schema", "kinds", "things"]) (G_check_values : FnOk P w K mg base CX0 10 f5 fd5 ["schema", "kinds", "things"] (spCheckValues C)) (T : Nms mg) (Cs : Cst K mg) (CS : CstS mg K) (L : ClT K C) :
  FnOk P w K mg base CX0 11 f fd ["schema", "things", "first"] (spCheckStore C) := by
 have G_is_table : FnOk P w K mg base CX0 2 f1 fd1 ["table", "least", "most", "taken"] (spIsTable K) := ok_is_table D_is_table D_is_name T Cs
 have G_is_key : FnOk P w K mg base CX0 1 f3 fd3 ["name", "table"] (spIsKey K) := ok_is_key D_is_key T
 obtain ⟨t1, g_M⟩ := CS.MOST_THINGS
 refine D.F.ok sc_check_store (fun vs H Q E h => ?_) (fun cdv A outer s H vs Q E hr h => ?_)
 ·obtain ⟨x, tt, ks, fs, us, root, ths, first, rfl, _⟩ := h
  rfl
 ·obtain ⟨x, tt, ks, fs, us, root, ths, first, rfl, Bt, ok, ht, At, so, q⟩ := h
  have hu := hu_of hr
  refine ⟨_, (pss_cons (ps_if (pt_not (pt_val (pe_call G_is_table (hr.mono (by decide)) (by rfl) D_is_table.g D_is_table.F.kp D_is_table.b .nil pass0 (pa_cons (pv 1) (pa_cons pe_int (pa_cons (pe_glob (v := .int 12) (by rfl) g_M ⟨_, rfl⟩) (pa_cons (pe_tup pa_nil) pa_nil)))))))
    (pss_one ps_never)
    pss_nil)
   (pss_cons (ps_expr (pe_call G_check_things (hr.mono (by decide)) (by rfl) D_check_things.g D_check_things.F.kp D_check_things.b .nil pass0 (pa_cons (pv 0) (pa_cons (pv 1) pa_nil))))
   (pss_cons (ps_lock (ps_setDc (j := 3) (mine := [("name", 4)]) (g := (gName 4)) (tt := tYes) rfl sc_check_store.nd rfl rfl (sw_trueD rfl rfl rfl (by decide +kernel)) (pi_keys (pv 1)) (blkOk_by (own := [("name", 4)]) (N := N_check_store) (sc := defScope s_check_store) (by decide +kernel)) (fun _ _ _ _ _ => (pg_name (i := 4) sc_check_store.nd rfl (.inl rfl))) (fun _ _ _ _ _ => pts_nil) (fun _ _ _ _ _ => (pv 4)) (fun _ _ _ _ _ => (pe_ix (ix_tupK K) (pe_dget hu (pv 1) (pv 4) (fun _ _ => rfl)) pe_int (fun _ _ => rfl)))))
   (pss_cons (ps_expr (pe_call G_check_values (hr.mono (by decide)) (by rfl) D_check_values.g D_check_values.F.kp D_check_values.b .nil pass0 (pa_cons (pv 0) (pa_cons (pv 3) (pa_cons (pv 1) pa_nil)))))
   (pss_one (ps_if (PW.pt (pw_or (pt_not (pt_val (pe_call G_is_key (hr.mono (by decide)) (by rfl) D_is_key.g D_is_key.F.kp D_is_key.b .nil pass0 (pa_cons (pv 2) (pa_cons (pv 3) pa_nil))))) (pw_or1 (pt_cmpR op_ne (pe_dget hu (pv 3) (pv 2) (fun _ _ => rfl)) (pe_fld (pv 0) rfl) (nomark _)))))
    (pss_one ps_never)
    pss_nil)))))), ?_⟩
  have n1 := so.n1
  have n12 := so.n12
  obtain ⟨dx, kt', ft', ut', _, _, _, hx, _⟩ := id Bt
  have hln : (thkv ths).length = ths.length := List.length_map ..
  refine ⟨.ref tt, rfl, by show 0 ≤ sizeLine; decide, fun te nte => ?_⟩
  have s1 : Same H (upd H te (.tup [])) := same_new nte
  have e1 : (upd H te (.tup [])) te = some (.tup []) := upd_same
  generalize upd H te (.tup []) = H1 at s1 e1
  refine ⟨tt, te, thkv ths, ths.map (·.nm), [], 1, 12, rfl, s1 _ _ ht, thkv_keys ths, fun z m => ?_, by rw [List.length_map]; omega, by rw [List.length_map]; omega, by rw [List.length_map]; omega, .inr (.of e1), fun H2 s2 => ⟨true, rfl, iteF ?_⟩⟩
  ·obtain ⟨r, mr, rfl⟩ := List.mem_map.mp m
   exact ⟨so.nm r mr, List.not_mem_nil⟩
  have sA := s1.trans s2
  refine ⟨.ref x, rfl, .ref tt, rfl, x, tt, ks, fs, us, root, ths, first, rfl, Bt.same sA, ok, sA _ _ ht, fun r m => (At r m).same sA, so, fun H3 s3 => ?_⟩
  have sB := sA.trans s3
  have ht3 := sB _ _ ht
  refine ⟨tt, .dK (thkv ths), ht3, trivial, fun od => ⟨.ref tt, rfl, tt, od, rfl, .inl ⟨thkv ths, upd_same, fun Da nD => ?_⟩⟩⟩
  have nDt : Da ≠ tt := fun z => by rw [z, upd_same] at nD; cases nD
  refine dc_it walk_keys (fun i H' => Same (upd H3 tt (.frz od (.dK (thkv ths)))) H' ∧ H' Da = some (.dK (kdv ((kdl ths).take i))))
   ⟨same_new nD, upd_same⟩ (fun i H _ p => p.1 _ _ upd_same) ?_ ?_
  ·rintro i y H4 H5 hi ⟨sm, eD⟩ ⟨rfl, k, v, e, rfl⟩
   obtain ⟨r, er, rfl, rfl⟩ := thkv_at e
   have mr := List.mem_of_getElem? er
   have rk : Rd H5 tt (.dK (thkv ths)) := .inr ⟨od, sm _ _ upd_same⟩
   have A3 := (At r mr).same sB
   have hrt : H5 r.t = some (.tup [.str r.kd, .ref r.da]) := sm _ _ (by rw [upd_ne (ne_of A3.t ht3 (by intro z; cases z))]; exact A3.t)
   refine ⟨rfl, lcT ⟨.str r.nm, rfl, .ref tt, rfl, .str r.nm, rfl, tt, _, rfl, .inl ⟨thkv ths, .inr r.nm, rk, rfl, (thkv_val so.nd mr).symm⟩, r.t, _, 0, _, rfl, rfl, .of hrt, atI_nat (j := 0) rfl, kdv ((kdl ths).take i), .inr r.nm, rfl, eD, ?_, same_upd sm nD, ?_⟩⟩
   ·rw [show (kdv ((kdl ths).take i)).length = ((kdl ths).take i).length from List.length_map .., List.length_take]
    exact Nat.lt_of_le_of_lt (show min i _ ≤ 1000 by omega) (by decide)
   ·rw [upd_same]
    have ek : (kdl ths)[i]? = some (r.nm, r.kd) := by
     unfold kdl
     rw [List.getElem?_map, er]
     rfl
    have hn : r.nm ∉ ((kdl ths).take i).map (fun p : Str × Str => p.1) := name_new (f := fun p : Str × Str => p.1) (kdl_nd so.nd) ek
    rw [List.take_succ, ek]
    exact congrArg (fun z => some (HO.dK z)) (put_snoc (f := fun p : Str × Str => p.1) (g := fun p => V.str p.2) (r := (r.nm, r.kd)) hn)
  ·rintro H4 ⟨sm, eD⟩
   refine ⟨sm _ _ upd_same, ?_⟩
   have su : Same H3 (upd H4 tt (.dK (thkv ths))) := same_unlock ht3 sm
   have eD' : (upd H4 tt (.dK (thkv ths))) Da = some (.dK (kdv (kdl ths))) := by
    rw [upd_ne nDt, eD, List.take_of_length_le (by rw [hln]; exact Nat.le_of_eq (List.length_map ..))]
   generalize upd H4 tt (.dK (thkv ths)) = H5 at su eD'
   have sC := sB.trans su
   refine ⟨.ref x, rfl, .ref Da, rfl, .ref tt, rfl, x, Da, tt, ks, fs, us, root, ths, first, rfl, Bt.same sC, ok, eD', sC _ _ ht, fun r m => (At r m).same sC, so, fun H6 s6 => ?_⟩
   have hval : valV (kdv (kdl ths)) (Sum.inr first) = some (V.str root) := valV_map (f := fun p : Str × Str => p.1) (g := fun p => V.str p.2) (kdl_nd so.nd) so.fi
   refine ⟨.str first, rfl, .ref Da, rfl, .str first, Da, rfl, .inl ⟨first, rfl, .inr ⟨kdv (kdl ths), .inl (s6 _ _ eD'), ?_⟩⟩⟩
   rw [hval]
   refine ⟨true, rfl, iteF ⟨.ref Da, rfl, .str first, rfl, Da, _, rfl, .inl ⟨kdv (kdl ths), .inr first, .inl (s6 _ _ eD'), rfl, hval.symm⟩, .ref x, rfl, x, C, dx, _, _, rfl, (sC.trans s6) _ _ hx, L.cl, L.nr, lkr _ _ _ _, ?_⟩⟩
   exact ⟨rfl, false, blNF rfl, iteF (q _ (sC.trans s6))⟩
end
end NW
namespace NW
open PySem PySem.Spec PyProof.Rows L2
theorem lk0 {k : Str} {v : V} {r : List (Str × V)} : ((k, v) :: r).lookup k = some v := by simp [List.lookup]
theorem lkS {k k' : Str} {v : V} {r : List (Str × V)} (n : ¬ k' = k) : ((k, v) :: r).lookup k' = r.lookup k' := by
 have := beq_eq_false_iff_ne.mpr n
 simp [List.lookup, this]
theorem putS {k k' : Str} {v v' : V} {r : List (Str × V)} (n : ¬ k = k') : putF k' v' ((k, v) :: r) = (k, v) :: putF k' v' r := by
 show (if k = k' then _ else _) = _
 rw [if_neg n]
end NW
namespace NW
open PySem PySem.Spec PyProof.Rows L2
open TL (tl)
structure StT (K : PySem.W.Frag) (C : Addr) : Prop where
 cl : Cls K C
 n1 : NoAttr K C "schema"
 n2 : NoAttr K C "first"
 n3 : NoAttr K C "thing_table"
def stfs (x : Addr) (z : Str) (tb : Addr) : List (Str × V) := [("schema", V.ref x), ("first", V.str z), ("thing_table", V.ref tb)]
section
variable {x tb : Addr} {z : Str}
theorem stp1 : putF "schema" (.ref x) [] = [(("schema" : Str), V.ref x)] := rfl
theorem stp2 : putF "first" (.str z) [(("schema" : Str), V.ref x)] = [(("schema" : Str), V.ref x), ("first", V.str z)] := putS (by decide +kernel)
theorem stp3 : putF "thing_table" (.ref tb) [(("schema" : Str), V.ref x), ("first", V.str z)] = stfs x z tb := (putS (by decide +kernel)).trans (congrArg _ (putS (by decide +kernel)))
theorem stl1 : (stfs x z tb).lookup ("schema" : Str) = some (.ref x) := lk0
theorem stl2 : (stfs x z tb).lookup ("first" : Str) = some (.str z) := (lkS (by decide +kernel)).trans lk0
theorem stl3 : (stfs x z tb).lookup ("thing_table" : Str) = some (.ref tb) := (lkS (by decide +kernel)).trans ((lkS (by decide +kernel)).trans lk0)
theorem stn {m : Str} (h1 : ¬ m = "schema") (h2 : ¬ m = "first") (h3 : ¬ m = "thing_table") : (stfs x z tb).lookup m = none := (lkS h1).trans ((lkS h2).trans (lkS h3))
end
abbrev TD := Str × Str × List (Str × PyData)
def tdat (ths : List TRow) : List TD := ths.map fun r => (r.nm, r.kd, vdat r.vs)
theorem tdat_kdl {a b : List TRow} (e : tdat a = tdat b) : kdl a = kdl b := by
 have := congrArg (List.map fun t : TD => (t.1, t.2.1)) e
 unfold tdat at this
 rw [List.map_map, List.map_map] at this
 exact this
theorem tdat_nm {a b : List TRow} (e : tdat a = tdat b) : a.map (·.nm) = b.map (·.nm) := by
 have := congrArg (List.map fun t : TD => t.1) e
 unfold tdat at this
 rw [List.map_map, List.map_map] at this
 exact this
theorem tdat_len {a b : List TRow} (e : tdat a = tdat b) : a.length = b.length := by
 have := congrArg List.length e
 unfold tdat at this
 rw [List.length_map, List.length_map] at this
 exact this
theorem tdat_ex {a b : List TRow} (e : tdat a = tdat b) {r : TRow} (m : r ∈ a) : ∃ s ∈ b, s.nm = r.nm ∧ s.kd = r.kd ∧ vdat s.vs = vdat r.vs := by
 have h : (r.nm, r.kd, vdat r.vs) ∈ tdat a := List.mem_map_of_mem (f := fun r : TRow => ((r.nm, r.kd, vdat r.vs) : TD)) m
 rw [e] at h
 obtain ⟨s, ms, es⟩ := List.mem_map.mp h
 have h1 := congrArg (fun t : TD => t.1) es
 have h2 := congrArg (fun t : TD => t.2.1) es
 have h3 := congrArg (fun t : TD => t.2.2) es
 exact ⟨s, ms, h1, h2, h3⟩
theorem vdat_ex {a b : List (Str × V × PyData)} (e : vdat a = vdat b) {f : Str × V × PyData} (m : f ∈ a) : ∃ g ∈ b, g.1 = f.1 ∧ g.2.2 = f.2.2 := by
 have h : (f.1, f.2.2) ∈ vdat a := List.mem_map_of_mem (f := fun f : Str × V × PyData => (f.1, f.2.2)) m
 rw [e] at h
 obtain ⟨s, ms, es⟩ := List.mem_map.mp h
 exact ⟨s, ms, congrArg (fun t : Str × PyData => t.1) es, congrArg (fun t : Str × PyData => t.2) es⟩
theorem StoOk.to {ks : List KRow} {fs : List FRow} {us : List URow} {root first : Str} {a b : List TRow} (e : tdat b = tdat a) (h : StoOk ks fs us root a first) : StoOk ks fs us root b first := by
 refine ⟨by rw [tdat_len e]; exact h.n1, by rw [tdat_len e]; exact h.n12, by rw [tdat_nm e]; exact h.nd, fun r m => ?_, fun r m => ?_, fun r m => ?_, fun r m f mf fl ml ef => ?_, by rw [tdat_kdl e]; exact h.fi⟩ <;> obtain ⟨s, ms, e1, e2, e3⟩ := tdat_ex e m
 ·rw [← e1]; exact h.nm s ms
 ·rw [← e2]; exact h.kd s ms
 ·rw [← vdat_names, ← e3, vdat_names, ← e2]; exact h.fd s ms
 ·obtain ⟨g, mg, g1, g2⟩ := vdat_ex e3.symm mf
  rw [tdat_kdl e, ← g2]
  exact h.ok s ms g mg fl (by rw [e2]; exact ml) (by rw [ef, g1])
structure StoAt (CS : Addr) (N H : Hp) (st x : Addr) (first : Str) (ths : List TRow) : Prop where
 o : ∃ dx tb, H st = some (.ins CS dx (stfs x first tb)) ∧ H tb = some (.dK (thkv ths))
 t : ∀ r ∈ ths, H r.t = some (.tup [.str r.kd, .ref r.da]) ∧ H r.da = some (.dK (vkv r.vs))
 v : ∀ r ∈ ths, ∀ f ∈ r.vs, VA N 4 f.2.1 f.2.2
theorem StoAt.same {CS : Addr} {N N' H H' : Hp} {st x : Addr} {first : Str} {ths : List TRow} (s1 : Same N N') (s2 : Same H H') (h : StoAt CS N H st x first ths) : StoAt CS N' H' st x first ths := by
 obtain ⟨dx, tb, h1, h2⟩ := h.o
 exact ⟨⟨dx, tb, s2 _ _ h1, s2 _ _ h2⟩, fun r m => ⟨s2 _ _ (h.t r m).1, s2 _ _ (h.t r m).2⟩, fun r m f mf => (h.v r m f mf).same s1⟩
abbrev s_Store_init : Stmt := inClass (topS 53) 0
abbrev N_Store_init : List Str := ["self", "schema", "things", "first", "name", "kind", "fields"]
theorem sc_Store_init : FnScope N_Store_init ["self", "schema", "things", "first"] (defScope s_Store_init) := ⟨rfl, rfl, rfl, by decide +kernel, rfl, by decide +kernel, by decide +kernel⟩
section
variable {P : Program} {w : World} {K : PySem.W.Frag} {mg : Str → Option Value} {base : Heap}
def spStInit (C CS : Addr) : Sp := fun vs H Q _ => ∃ (st dx x tt : Addr) (ks : List KRow) (fs : List FRow) (us : List URow) (root : Str) (ths : List TRow) (first : Str), vs = [.ref st, .ref x, .ref tt, .str first] ∧ H st = some (.ins CS dx []) ∧
 BuiltAt C H x ks fs us root ∧ SchOk ks fs us root ∧ H tt = some (.dK (thkv ths)) ∧ (∀ r ∈ ths, r.At H ∧ r.da ≠ tt) ∧ StoOk ks fs us root ths first ∧
 ∀ H' ths', Gr st H H' → StoAt CS (nw H H') H' st x first ths' → tdat ths' = tdat ths → (∀ r ∈ ths', H r.da = none) → (∀ dx tb, H' st = some (.ins CS dx (stfs x first tb)) → H tb = none) → Q .non H'
theorem ok_store_init {f f1 f2 C CS : Addr} {fd fd1 fd2 : FuncData} (F : Fun K "__init__" "Store.__init__" s_Store_init f fd) (D_check_store : Df K mg "check_store" s_check_store f1 fd1 ["schema", "things", "first"]) (G_check_store : FnOk P w K mg base CX0 11 f1 fd1 ["schema", "things", "first"] (spCheckStore C))
  (D_copied_fields : Df K mg "copied_fields" s_copied_fields f2 fd2 ["fields"]) (G_copied_fields : FnOk P w K mg base CX0 6 f2 fd2 ["fields"] spCopyF) (T : Nms mg) (L : StT K CS) :
  FnOk P w K mg base CX0 12 f fd ["self", "schema", "things", "first"] (spStInit C CS) := by
 refine F.ok sc_Store_init (fun vs H Q E h => ?_) (fun cdv A outer s H vs Q E hr h => ?_)
 ·obtain ⟨st, dx, x, tt, ks, fs, us, root, ths, first, rfl, _⟩ := h
  rfl
 ·obtain ⟨st, dx, x, tt, ks, fs, us, root, ths, first, rfl, hst, Bt, ok, ht, At, so, q⟩ := h
  have hu := hu_of hr
  refine ⟨_, (pss_cons (ps_expr (pe_call G_check_store (hr.mono (by decide)) (by rfl) D_check_store.g D_check_store.F.kp D_check_store.b .nil pass0 (pa_cons (pv 1) (pa_cons (pv 2) (pa_cons (pv 3) pa_nil)))))
   (pss_cons (ps_fld (pv 0) (pv 1) rfl)
   (pss_cons (ps_fld (pv 0) (pv 3) rfl)
   (pss_one (ps_fld (pv 0) (pe_lock (pe_dc (own := [("name", 4), ("kind", 5), ("fields", 6)]) (g := gTup K 2 (gCons (gName 4) (gCons (gTup K 2 (gCons (gName 5) (gCons (gName 6) gNil))) gNil))) (tt := tYes) rfl sc_Store_init.nd (pi_items (pv 2)) (blkOk_by (own := [("name", 4), ("kind", 5), ("fields", 6)]) (N := N_Store_init) (sc := defScope s_Store_init) (by decide +kernel)) (fun _ _ _ _ _ => (pg_tup (by rfl) (pgs_cons (pg_name (i := 4) sc_Store_init.nd rfl (.inl rfl)) (pgs_cons (pg_tup (by rfl) (pgs_cons (pg_name (i := 5) sc_Store_init.nd rfl (.inl rfl)) (pgs_cons (pg_name (i := 6) sc_Store_init.nd rfl (.inl rfl)) pgs_nil))) pgs_nil)))) (fun _ _ _ _ _ => pts_nil) (fun _ _ _ _ _ => (pv 4)) (fun _ _ _ _ _ => (pe_tup (pa_cons (pv 5) (pa_cons (pe_call G_copied_fields (hr.mono (by decide)) (by rfl) D_copied_fields.g D_copied_fields.F.kp D_copied_fields.b .nil pass0 (pa_cons (pv 6) pa_nil)) pa_nil)))))) rfl))))), ?_⟩
  have n12 := so.n12
  have hln : (thkv ths).length = ths.length := List.length_map ..
  refine ⟨.ref x, rfl, .ref tt, rfl, .str first, rfl, x, tt, ks, fs, us, root, ths, first, rfl, Bt, ok, ht, fun r m => (At r m).1, so, fun H1 s1 => ?_⟩
  have hst1 := s1 _ _ hst
  refine ⟨.ref x, rfl, .ref st, rfl, st, CS, dx, _, rfl, hst1, L.cl, L.n1, by show 0 < 1000; decide, ?_⟩
  refine ⟨.str first, rfl, .ref st, rfl, st, CS, dx, _, rfl, upd_same, L.cl, L.n2, by rw [stp1]; show 1 < 1000; decide, ?_⟩
  have g2 : Gr st H (upd (upd H1 st (.ins CS dx (putF "schema" (.ref x) []))) st (.ins CS dx (putF "first" (.str first) (putF "schema" (.ref x) [])))) := (gr_x s1).trans (Gr.box.trans Gr.box)
  have hst2 : (upd (upd H1 st (.ins CS dx (putF "schema" (.ref x) []))) st (.ins CS dx (putF "first" (.str first) (putF "schema" (.ref x) [])))) st = some (.ins CS dx [(("schema" : Str), V.ref x), ("first", V.str first)]) := by rw [upd_same, stp1, stp2]
  generalize upd (upd H1 st (.ins CS dx (putF "schema" (.ref x) []))) st (.ins CS dx (putF "first" (.str first) (putF "schema" (.ref x) []))) = H2 at g2 hst2
  have ht2 : H2 tt = some (.dK (thkv ths)) := g2 _ _ (ne_of ht hst (by intro z; cases z)) ht
  have At2 : ∀ r ∈ ths, r.At H2 := fun r m => by
   have h := (At r m).1
   exact ⟨g2 _ _ (ne_of h.t hst (by intro z; cases z)) h.t, g2 _ _ (ne_of h.d hst (by intro z; cases z)) h.d, fun f mf => (h.v f mf).gr (a := st) (fun xs e => by rw [hst] at e; cases e) (fun xs e => by rw [hst] at e; cases e) fun b o n e => g2 b o n e⟩
  refine ⟨tt, .dK (thkv ths), ht2, trivial, fun od => ?_⟩
  have gl : ∀ b o, b ≠ tt → H2 b = some o → (upd H2 tt (.frz od (.dK (thkv ths)))) b = some o := fun b o n e => by rw [upd_ne n]; exact e
  have eL : (upd H2 tt (.frz od (.dK (thkv ths)))) tt = some (.frz od (.dK (thkv ths))) := upd_same
  have hno : ∀ b o, (upd H2 tt (.frz od (.dK (thkv ths)))) b = some o → b ≠ tt → H2 b = some o := fun b o e n => by rw [upd_ne n] at e; exact e
  have hnn : ∀ b, (upd H2 tt (.frz od (.dK (thkv ths)))) b = none → H2 b = none := fun b e => by
   have n : b ≠ tt := fun z => by rw [z, upd_same] at e; cases e
   rw [upd_ne n] at e
   exact e
  generalize hHL : upd H2 tt (.frz od (.dK (thkv ths))) = HL at gl eL hno hnn
  have AtL : ∀ r ∈ ths, HL r.t = some (.tup [.str r.kd, .ref r.da]) ∧ HL r.da = some (.dK (vkv r.vs)) ∧ ∀ f ∈ r.vs, VA HL 4 f.2.1 f.2.2 := fun r m => by
   have h := At2 r m
   exact ⟨gl _ _ (ne_of h.t ht2 (by intro z; cases z)) h.t, gl _ _ (At r m).2 h.d, fun f mf => (h.v f mf).gr (a := tt) (fun xs e => by rw [ht2] at e; cases e) (fun xs e => by rw [ht2] at e; cases e) gl⟩
  refine ⟨.ref tt, rfl, tt, od, thkv ths, rfl, eL, fun Da nD => ?_⟩
  have nDt : Da ≠ tt := fun z => by rw [z, eL] at nD; cases nD
  refine dc_it walk_items (fun j H' => Same HL H' ∧ ∃ rs : List TRow, rs.length = j ∧ tdat rs = (tdat ths).take j ∧ (∀ r ∈ rs, H' r.t = some (.tup [.str r.kd, .ref r.da]) ∧ H' r.da = some (.dK (vkv r.vs)) ∧ (r.da ≠ Da ∧ HL r.da = none) ∧ ∀ f ∈ r.vs, VA (nw (upd HL Da (.dK [])) H') 4 f.2.1 f.2.2) ∧ H' Da = some (.dK (thkv rs)))
   ⟨same_new nD, [], rfl, rfl, (fun r m => nomatch (show r ∈ ([] : List TRow) from m)), upd_same⟩ (fun j H' _ p => p.1 _ _ eL) ?_ ?_
  ·rintro j y H3 H4 hj ⟨sm, rs, hl, hd, hat, eD⟩ ⟨tp, xk, xv, rfl, ntp, rfl, ek, ev⟩
   dsimp only at ek ev
   cases e0 : (thkv ths)[j]? with
   | none => rw [e0] at ek; cases ek
   | some p =>
    rw [e0] at ek ev
    cases ek
    cases ev
    obtain ⟨pk, pv⟩ := p
    obtain ⟨r, er, rfl, rfl⟩ := thkv_at e0
    have mr := List.mem_of_getElem? er
    dsimp only
    have s4 := same_new (o := .tup [kV (Sum.inr r.nm), V.ref r.t]) ntp
    have e4 : (upd H3 tp (.tup [kV (Sum.inr r.nm), V.ref r.t])) tp = some (.tup [.str r.nm, V.ref r.t]) := upd_same
    generalize upd H3 tp (.tup [kV (Sum.inr r.nm), V.ref r.t]) = H4 at s4 e4
    obtain ⟨hrt, hrd, hrv⟩ := AtL r mr
    have sm4 := sm.trans s4
    have fnd := so.fnd ok mr
    have few : r.vs.length ≤ 1000 := by
     have h1 := (so.fd r mr).length_eq
     rw [List.length_map, List.length_map] at h1
     have := fds_few ok (fds_ex (ks := ks) (fs := fs) (z := r.kd))
     omega
    refine ⟨tp, _, rfl, .inl (.inl e4), rfl, _, _, rfl, _, _, rfl, r.t, _, rfl, .inl (.inl (sm4 _ _ hrt)), rfl, _, _, rfl, _, _, rfl, rfl, rfl, rfl, lcT ⟨.str r.nm, rfl, .str r.kd, rfl, .ref r.da, rfl, r.da, r.vs, rfl, sm4 _ _ hrd, fnd, few, fun f mf => (hrv f mf).same sm4, fun Dd gv H5 s5 nDd eDd hgd hgv => ⟨by show 2 ≤ sizeLine; decide, fun t nt => ?_⟩⟩⟩
    have s6 : Same H5 (upd H5 t (.tup [.str r.kd, .ref Dd])) := same_new nt
    have e6 : (upd H5 t (.tup [.str r.kd, .ref Dd])) t = some (.tup [.str r.kd, .ref Dd]) := upd_same
    generalize upd H5 t (.tup [.str r.kd, .ref Dd]) = H6 at s6 e6
    have s36 : Same H3 H6 := (s4.trans s5).trans s6
    have eD6 := s36 _ _ eD
    have ndD : Dd ≠ Da := fun z => by rw [z, s4 _ _ eD] at nDd; cases nDd
    have keep : ∀ b o, b ≠ Da → H6 b = some o → (upd H6 Da (.dK (putK (thkv rs) (Sum.inr r.nm) (.ref t)))) b = some o := fun b o n e => by rw [upd_ne n]; exact e
    have g1 : ∀ {G}, Same G H6 → Same (nw (upd HL Da (.dK [])) G) (nw (upd HL Da (.dK [])) (upd H6 Da (.dK (putK (thkv rs) (Sum.inr r.nm) (.ref t))))) := fun {G} sG => nw_go fun b o hb e4 => by
     by_cases h : b = Da
     ·subst h; rw [upd_same] at hb; cases hb
     ·rw [upd_ne h]; exact sG _ _ e4
    refine ⟨thkv rs, .inr r.nm, rfl, eD6, ?_, same_upd (sm.trans s36) nD, rs ++ [TRow.mk r.nm r.kd t Dd gv], ?_, ?_, ?_, ?_⟩
    ·rw [show (thkv rs).length = rs.length from List.length_map ..]
     exact Nat.lt_of_le_of_lt (show rs.length ≤ 1000 by omega) (by decide)
    ·rw [List.length_append, hl]; rfl
    ·have e1 : (tdat ths)[j]? = some (r.nm, r.kd, vdat r.vs) := by
      unfold tdat
      rw [List.getElem?_map, er]
      rfl
     rw [List.take_succ, e1, ← hd, ← hgd]
     exact List.map_append ..
    ·intro u mu
     rcases List.mem_append.mp mu with mu | mu
     ·obtain ⟨a1, a2, a3, a4⟩ := hat u mu
      exact ⟨keep _ _ (ne_of a1 eD (by intro z; cases z)) (s36 _ _ a1), keep _ _ a3.1 (s36 _ _ a2), a3, fun f mf => (a4 f mf).same (g1 s36)⟩
     ·obtain rfl := List.mem_singleton.mp mu
      refine ⟨keep _ _ (ne_of e6 eD6 (by intro z; cases z)) e6, keep _ _ ndD (s6 _ _ eDd), ⟨ndD, sm4.free nDd⟩, fun f mf => (hgv f mf).same (Same.trans (nw_in (fun b hb => ?_) (fun b zs hb => ?_) (Same.tk s5)) (g1 s6))⟩
      ·by_cases h : b = Da
       ·rw [h, s4 _ _ eD] at hb; cases hb
       ·rw [upd_ne h]; exact sm4.free hb
      ·have h : b ≠ Da := ne_of hb (s4 _ _ eD) (by intro z; cases z)
       rw [upd_ne h]
       cases q0 : HL b with
       | none => exact .inl rfl
       | some o => exact .inr ((sm4 _ _ q0).symm.trans hb)
    ·rw [upd_same]
     have hn : r.nm ∉ rs.map (fun r : TRow => r.nm) := by
      have e2 : rs.map (fun r : TRow => r.nm) = (ths.map (·.nm)).take j := by
       have e3 := congrArg (List.map fun t : TD => t.1) hd
       rw [List.map_take] at e3
       unfold tdat at e3
       rw [List.map_map, List.map_map] at e3
       exact e3
      rw [e2, ← List.map_take]
      exact name_new so.nd er
     exact congrArg (fun z => some (HO.dK z)) (put_snoc (f := fun r : TRow => r.nm) (g := fun r => V.ref r.t) (r := TRow.mk r.nm r.kd t Dd gv) hn)
  ·rintro H3 ⟨sm, rs, hl, hd, hat, eD⟩
   refine ⟨sm _ _ eL, ?_⟩
   rw [hln, List.take_of_length_le (by show (tdat ths).length ≤ ths.length; exact Nat.le_of_eq (List.length_map ..))] at hd
   have su : Same H2 (upd H3 tt (.dK (thkv ths))) := same_unlock (od := od) ht2 (by rw [hHL]; exact sm)
   have keep : ∀ b o, b ≠ tt → H3 b = some o → (upd H3 tt (.dK (thkv ths))) b = some o := fun b o n e => by rw [upd_ne n]; exact e
   have eD' := keep _ _ nDt eD
   have hst3 := su _ _ hst2
   have htt3 := sm _ _ eL
   have hat' : ∀ r ∈ rs, (upd H3 tt (.dK (thkv ths))) r.t = some (.tup [.str r.kd, .ref r.da]) ∧ (upd H3 tt (.dK (thkv ths))) r.da = some (.dK (vkv r.vs)) := fun r m => ⟨keep _ _ (ne_of (hat r m).1 htt3 (by intro z; cases z)) (hat r m).1, keep _ _ (ne_of (hat r m).2.1 htt3 (by intro z; cases z)) (hat r m).2.1⟩
   have hvn : ∀ b o, nw (upd HL Da (.dK [])) H3 b = some o → b ≠ st → nw H (upd H3 tt (.dK (thkv ths))) b = some o := fun b o e nst => by
    rcases nw_some e with ⟨hb, e1⟩ | ⟨xs, hb, rfl⟩
    ·have h1 : b ≠ Da := fun z => by rw [z, upd_same] at hb; cases hb
     rw [upd_ne h1] at hb
     have h2 : b ≠ tt := fun z => by rw [z, eL] at hb; cases hb
     have h0 : H b = none := by
      cases q0 : H b with
      | none => rfl
      | some u =>
       have := g2 _ _ nst q0
       rw [hnn b hb] at this
       cases this
     rw [nw_new h0]
     exact keep _ _ h2 e1
    ·have h1 : b ≠ Da := fun z => by rw [z, upd_same] at hb; cases hb
     rw [upd_ne h1] at hb
     have h2 : b ≠ tt := fun z => by rw [z, eL] at hb; cases hb
     have hb2 := hno _ _ hb h2
     cases q0 : H b with
     | none => rw [nw_new q0]; exact su _ _ hb2
     | some u =>
      have := g2 _ _ nst q0
      rw [hb2] at this
      cases this
      exact nw_tup q0
   generalize upd H3 tt (.dK (thkv ths)) = H4 at su eD' hst3 hat' hvn
   refine ⟨.ref st, rfl, st, CS, dx, _, rfl, hst3, L.cl, L.n3, by show 2 < 1000; decide, ?_⟩
   rw [stp3]
   have gx : Gr st H4 (upd H4 st (.ins CS dx (stfs x first Da))) := Gr.box
   have nst : ∀ {b o}, H4 b = some o → (∀ a c l, o ≠ .ins a c l) → b ≠ st := fun {b o} e h z => by
    rw [z, hst3] at e
    exact h _ _ _ (Option.some.inj e).symm
   have hfree : ∀ b, HL b = none → H b = none := fun b e => by
    cases q0 : H b with
    | none => rfl
    | some u =>
     have h1 : HL st = some (.ins CS dx [(("schema" : Str), V.ref x), ("first", V.str first)]) := gl _ _ (ne_of hst2 ht2 (by intro z; cases z)) hst2
     have n : b ≠ st := fun z => by rw [z, h1] at e; cases e
     have h2 := g2 _ _ n q0
     rw [hnn b e] at h2
     cases h2
   refine q _ rs ((g2.trans (gr_x su)).trans gx) ⟨⟨dx, Da, upd_same, gx _ _ (nst eD' (by intro _ _ _ z; cases z)) eD'⟩, fun r m => ⟨gx _ _ (nst (hat' r m).1 (by intro _ _ _ z; cases z)) (hat' r m).1, gx _ _ (nst (hat' r m).2 (by intro _ _ _ z; cases z)) (hat' r m).2⟩, fun r m f mf => ?_⟩ hd (fun r m => hfree _ (hat r m).2.2.1.2) (fun dx' tb' e => by
    rw [upd_same] at e
    have e1 := Option.some.inj e
    injection e1 with _ _ e2
    unfold stfs at e2
    have e3 : Da = tb' := by simpa using e2
    rw [← e3]
    exact hfree _ nD)
   have va := (hat r m).2.2.2 f mf
   have hno' : nw (upd HL Da (.dK [])) H3 st = none := by
    have h1 : HL st = some (.ins CS dx [(("schema" : Str), V.ref x), ("first", V.str first)]) := gl _ _ (ne_of hst2 ht2 (by intro z; cases z)) hst2
    have h2 : st ≠ Da := ne_of_none h1 nD
    unfold nw
    rw [upd_ne h2, h1]
   refine va.gr (a := st) ?_ ?_ fun b o n e => ?_
   ·intro xs e; rw [hno'] at e; cases e
   ·intro xs e; rw [hno'] at e; cases e
   ·have e5 := hvn b o e n
    rcases nw_some e5 with ⟨h0, e1⟩ | ⟨xs, h0, rfl⟩
    ·rw [nw_new h0]; exact gx _ _ n e1
    ·exact nw_tup h0
end
end NW
namespace NW
open PySem PySem.Spec PyProof.Rows L2
open TL (tl)
abbrev s_Store_kind_of : Stmt := inClass (topS 53) 3
abbrev N_Store_kind_of : List Str := ["self", "thing"]
theorem sc_Store_kind_of : FnScope N_Store_kind_of ["self", "thing"] (defScope s_Store_kind_of) := ⟨rfl, rfl, rfl, by decide +kernel, rfl, by decide +kernel, by decide +kernel⟩
abbrev s_Store_fields_with : Stmt := inClass (topS 53) 4
abbrev N_Store_fields_with : List Str := ["self", "thing", "field", "kind", "fields"]
theorem sc_Store_fields_with : FnScope N_Store_fields_with ["self", "thing", "field"] (defScope s_Store_fields_with) := ⟨rfl, rfl, rfl, by decide +kernel, rfl, by decide +kernel, by decide +kernel⟩
abbrev s_Store_value : Stmt := inClass (topS 53) 5
abbrev N_Store_value : List Str := ["self", "thing", "field"]
theorem sc_Store_value : FnScope N_Store_value ["self", "thing", "field"] (defScope s_Store_value) := ⟨rfl, rfl, rfl, by decide +kernel, rfl, by decide +kernel, by decide +kernel⟩
end NW
namespace NW
open PySem PySem.Spec PyProof.Rows L2
open TL (tl)
def tMonoS (t : TS) : TS := fun D σ H => ∃ Qn : L2.St → Hp → Prop, t { D with nx := Qn } σ H ∧ ∀ σ' H', Qn σ' H' → D.nx σ' H'
theorem ps_mono {X : Cx} {st : Stmt} {t : TS} (h : PS X st t) : PS X st (tMonoS t) := by
 refine ⟨fun pins s σ H D I q => ?_⟩
 obtain ⟨Qn, q0, w⟩ := q
 refine thn (h.run pins s σ H { D with nx := Qn } I q0) fun f s1 hf => ?_
 cases f with
 | next =>
  obtain ⟨σ', H', I', h'⟩ := hf
  exact ⟨σ', H', I', w σ' H' h'⟩
 | brk => exact hf
 | cont => exact hf
 | ret u => exact hf
theorem VA.up {H : Hp} : ∀ {n : Nat} {v : V} {d : PyData}, VA H n v d → ∀ {m : Nat}, n ≤ m → VA H m v d := by
 intro n v d h
 induction h with
 | non n => intro m _; exact .non m
 | fail n e => intro m _; exact .fail m e
 | num n i => intro m _; exact .num m i
 | txt n h l => intro m _; exact .txt m h l
 | lst n e hl hm _ ih =>
  intro m hm'
  obtain ⟨k, rfl⟩ : ∃ k, m = k + 1 := ⟨m - 1, by omega⟩
  exact .lst k e hl hm fun i x d e1 e2 => ih i x d e1 e2 (by omega)
mutual
def lvs : PyData → Nat
 | .list l => lvsL l
 | _ => 1
def lvsL : List PyData → Nat
 | [] => 0
 | d :: l => lvs d + lvsL l
end
def Cln : Shp → PyData → Prop
 | .base _, d => d ≠ failD
 | .sure s, d => d ≠ .none ∧ Cln s d
 | .list s, d => d = .none ∨ ∃ ds, d = .list ds ∧ ∀ x ∈ ds, Cln s x
def CHRS : Str := " !\"#$&'()*+,-./0123456789:;<=>?@ABCDEFGHIJKLMNOPQRSTUVWXYZ[\\]^_`" ++ "abcdefghijklmnopqrstuvwxyz{|}~"
theorem chrs_len : CHRS.length = 94 := by decide +kernel
theorem chrs_ok : ∀ c ∈ CHRS.cps.toList, 32 ≤ c ∧ c ≤ 126 ∧ c ≠ 37 := by decide +kernel
theorem chrs_at {j : Nat} (h : j < 94) : ∃ c, atI CHRS.cps.toList (j : Int) = some c ∧ 32 ≤ c ∧ c ≤ 126 ∧ c ≠ 37 := by
 have hl : j < CHRS.cps.toList.length := by
  have := chrs_len
  rw [len_tl] at this
  have e : (tl CHRS).length = CHRS.cps.toList.length := rfl
  omega
 exact ⟨CHRS.cps.toList[j], atI_nat (List.getElem?_eq_getElem hl), chrs_ok _ (List.getElem_mem hl)⟩
theorem join_ok {cs : List Nat} (h12 : cs.length ≤ 12) (h : ∀ c ∈ cs, 32 ≤ c ∧ c ≤ 126 ∧ c ≠ 37) : TxtOk (Txt.join "" (cs.map fun c => sgn c)) ∧ PyData.strOk (Txt.join "" (cs.map fun c => sgn c)) = true ∧ (Txt.join "" (cs.map fun c => sgn c)).length ≤ 12 := by
 have e := joinE cs
 have el : (Txt.join "" (cs.map fun c => sgn c)).length ≤ 12 := by rw [len_tl, e]; exact h12
 refine ⟨⟨el, by rw [e]; exact h⟩, ?_, el⟩
 unfold PyData.strOk
 rw [Array.all_eq_true']
 intro c hc
 have hc : c ∈ tl (Txt.join "" (cs.map fun c => sgn c)) := Array.mem_toList_iff.mpr hc
 rw [e] at hc
 have := h c hc
 exact decide_eq_true (by omega)
theorem mem_ks {ks : List KRow} {fs : List FRow} {us : List URow} {root z : Str} {l : List Str} (ok : SchOk ks fs us root) (hz : z ∈ bsOf ks fs us) (h1 : z ≠ "number") (h2 : z ≠ "text") (h : MemL ks us z l) : l ≠ [] ∧ l.length ≤ 6 ∧ ∀ k ∈ l, k ∈ ks.map (·.nm) ∧ k ∈ memF ks us z := by
 have hz' : z ∈ ks.map (·.nm) ++ (fs.map (·.nm) ++ us.map (·.nm)) := by
  rcases List.mem_append.mp hz with m | m
  ·rcases List.mem_cons.mp m with e | m
   ·exact absurd e h1
   ·exact absurd (List.mem_singleton.mp m) h2
  ·exact m
 obtain ⟨p, hk⟩ := mem_ok ok hz' h
 refine ⟨fun e => ?_, h.2.1, fun k m => ⟨hk k m, by rw [memF_eq ok.ndu h]; exact m⟩⟩
 rw [e] at p
 exact Nat.lt_irrefl 0 p
end NW
namespace NW
open PySem PySem.Spec PyProof.Rows L2
open TL (tl)
open StX (pa_star)
abbrev s_Lnumber : Stmt := topS 67
abbrev N_Lnumber : List Str := ["_law_box_here", "_law_number_here", "_law_great"]
theorem sc_Lnumber : FnScope N_Lnumber ["_law_box_here"] (defScope s_Lnumber) := ⟨rfl, rfl, rfl, by decide +kernel, rfl, by decide +kernel, by decide +kernel⟩
abbrev s_Ltext : Stmt := topS 68
abbrev N_Ltext : List Str := ["_law_box_here", "_law_signs", "_law_size", "_law_k"]
theorem sc_Ltext : FnScope N_Ltext ["_law_box_here"] (defScope s_Ltext) := ⟨rfl, rfl, rfl, by decide +kernel, rfl, by decide +kernel, by decide +kernel⟩
section
variable {P : Program} {w : World} {K : PySem.W.Frag} {mg : Str → Option Value} {base : Heap}
def spLnumber : Sp := fun vs H Q _ => ∃ b r : Addr, vs = [.ref b] ∧ Box H b r ∧ ∀ (i : Int) H', NumOk i → Gr b H H' → Box H' b r → Q (.int i) H'
theorem ok_Lnumber {f f1 : Addr} {fd fd1 : FuncData} (D : Df K mg "_law_number" s_Lnumber f fd ["_law_box_here"]) (D_Ldraw : Df K mg "_law_draw" s_Ldraw f1 fd1 ["_law_box_here", "_law_many"]) (T : Nms mg) : FnOk P w K mg base CX0 2 f fd ["_law_box_here"] spLnumber := by
 have G_Ldraw : FnOk P w K mg base CX0 1 f1 fd1 ["_law_box_here", "_law_many"] spLdraw := ok_Ldraw D_Ldraw T
 refine D.F.ok sc_Lnumber (fun vs H Q E h => ?_) (fun cdv A outer sh H vs Q E hr h => ?_)
 ·obtain ⟨b, r, rfl, _⟩ := h
  rfl
 ·obtain ⟨b, r, rfl, W, k⟩ := h
  have hS : ∀ n : Nat, n ≤ 1000 → n ≤ sizeLine := fun n h => Nat.le_trans h (by decide)
  refine ⟨_, (pss_cons (ps_set (i := 1) sc_Lnumber.nd rfl (.inl rfl) (pe_call G_Ldraw (hr.mono (by decide)) (by rfl) D_Ldraw.g D_Ldraw.F.kp D_Ldraw.b .nil pass0 (pa_cons (pv 0) (pa_cons (pe_op op_pow pe_int pe_int) pa_nil))))
   (pss_cons (ps_set (i := 2) sc_Lnumber.nd rfl (.inl rfl) (pe_op op_add (pe_op op_mul (pv 1) (pe_op op_pow pe_int pe_int)) (pe_call G_Ldraw (hr.mono (by decide)) (by rfl) D_Ldraw.g D_Ldraw.F.kp D_Ldraw.b .nil pass0 (pa_cons (pv 0) (pa_cons (pe_op op_pow pe_int pe_int) pa_nil)))))
   (pss_one (ps_ret (pe_ix ix_list (pe_lst (pa_cons (pv 1) (pa_cons (pe_un un_neg (pv 1)) (pa_cons (pv 2) (pa_cons (pe_un un_neg (pv 2)) (pa_cons (pe_op op_modN (pe_callTy call_int1 (by rfl) T.n_int (by decide +kernel) (pa_cons (pv 1) pa_nil)) pe_int) pa_nil)))))) (pe_call G_Ldraw (hr.mono (by decide)) (by rfl) D_Ldraw.g D_Ldraw.F.kp D_Ldraw.b .nil pass0 (pa_cons (pv 0) (pa_cons pe_int pa_nil))) (fun _ _ => rfl)))))), ?_⟩
  have p6 : (10 : Int) ^ (6 : Int).toNat = 1000000 := by decide
  have p23 : (10 : Int) ^ (23 : Int).toNat = 100000000000000000000000 := by decide
  refine ⟨.ref b, rfl, _, _, rfl, rfl, ⟨by decide, by decide, by decide⟩, b, r, (10 : Int) ^ (6 : Int).toNat, rfl, W, by decide, by decide, fun x1 H1 x10 x11 g1 W1 => ?_⟩
  refine ⟨.int x1, rfl, _, _, rfl, rfl, ⟨by decide, by decide, by decide⟩, _, _, rfl, rfl, .inl ⟨by omega, by omega⟩, .ref b, rfl, _, _, rfl, rfl, ⟨by decide, by decide, by decide⟩, b, r, (10 : Int) ^ (6 : Int).toNat, rfl, W1, by decide, by decide, fun x2 H2 x20 x21 g2 W2 => ⟨_, _, rfl, rfl, ?_⟩⟩
  rw [p6] at x11 x21
  rw [p23]
  obtain ⟨L, eL⟩ : ∃ L : Int, x1 * 100000000000000000000000 + x2 = L := ⟨_, rfl⟩
  rw [show (fun i j : Int => V.int (i + j)) (x1 * 100000000000000000000000) x2 = V.int L from congrArg V.int eL]
  have L0 : 0 ≤ L := by omega
  have L1 : L < 10 ^ 30 := by omega
  have m3 := fmod_range (a := x1) (m := 3) (by decide)
  refine ⟨.int x1, rfl, .int x1, rfl, _, rfl, .int L, rfl, .int L, rfl, _, rfl, .int x1, rfl, .inl ⟨x1, rfl, _, _, rfl, rfl, (show (3 : Int) ≠ 0 by decide), hS 5 (by decide), fun p np => ?_⟩⟩
  have npb := W2.neb np
  have e3 : (upd H2 p (.lst [.int x1, .int (-x1), .int L, .int (-L), .int (x1.fmod 3)])) p = some (.lst [.int x1, .int (-x1), .int L, .int (-L), .int (x1.fmod 3)]) := upd_same
  have g3 : Gr b H2 (upd H2 p (.lst [.int x1, .int (-x1), .int L, .int (-L), .int (x1.fmod 3)])) := Gr.new np
  have W3 := W2.new (o := .lst [.int x1, .int (-x1), .int L, .int (-L), .int (x1.fmod 3)]) np
  refine ⟨.ref b, rfl, b, r, 5, rfl, W3, by decide, by decide, fun d H4 d0 d1 g4 W4 => ?_⟩
  have e4 := g4 _ _ npb e3
  obtain ⟨d, rfl⟩ := Int.eq_ofNat_of_zero_le d0
  obtain ⟨i, ei, hi⟩ : ∃ i : Int, [V.int x1, V.int (-x1), V.int L, V.int (-L), V.int (x1.fmod 3)][d]? = some (.int i) ∧ NumOk i := by
   unfold NumOk
   rcases d with _ | _ | _ | _ | _ | d
   ·exact ⟨x1, rfl, by omega, by omega⟩
   ·exact ⟨-x1, rfl, by omega, by omega⟩
   ·exact ⟨L, rfl, by omega, by omega⟩
   ·exact ⟨-L, rfl, by omega, by omega⟩
   ·exact ⟨x1.fmod 3, rfl, by omega, by omega⟩
   ·omega
  exact ⟨p, _, d, _, rfl, rfl, SqL.of e4, atI_nat ei, k i H4 hi (((g1.trans g2).trans g3).trans g4) W4⟩
def spLtext : Sp := fun vs H Q _ => ∃ b r : Addr, vs = [.ref b] ∧ Box H b r ∧ ∀ (x : Str) H', TxtOk x → PyData.strOk x = true → Gr b H H' → Box H' b r → Q (.str x) H'
theorem ok_Ltext {f f1 : Addr} {fd fd1 : FuncData} (D : Df K mg "_law_text" s_Ltext f fd ["_law_box_here"]) (D_Ldraw : Df K mg "_law_draw" s_Ldraw f1 fd1 ["_law_box_here", "_law_many"]) (T : Nms mg) : FnOk P w K mg base CX0 2 f fd ["_law_box_here"] spLtext := by
 have G_Ldraw : FnOk P w K mg base CX0 1 f1 fd1 ["_law_box_here", "_law_many"] spLdraw := ok_Ldraw D_Ldraw T
 refine D.F.ok sc_Ltext (fun vs H Q E h => ?_) (fun cdv A outer sh H vs Q E hr h => ?_)
 ·obtain ⟨b, r, rfl, _⟩ := h
  rfl
 ·obtain ⟨b, r, rfl, W, k⟩ := h
  have hu := hu_of hr
  have hS : ∀ n : Nat, n ≤ 1000 → n ≤ sizeLine := fun n h => Nat.le_trans h (by decide)
  have lt : ∀ n : Nat, n ≤ 1000 → n < sizeLine := fun n h => Nat.lt_of_le_of_lt h (by decide)
  refine ⟨_, (pss_cons (ps_set (i := 1) sc_Ltext.nd rfl (.inr rfl) pe_str)
   (pss_cons (ps_set (i := 1) sc_Ltext.nd rfl (.inr rfl) (pe_op op_add_str (pv 1) pe_str))
   (pss_cons (ps_set (i := 2) sc_Ltext.nd rfl (.inl rfl) (pe_ix ix_list (pe_lst (pa_cons pe_int (pa_cons pe_int (pa_cons pe_int (pa_cons pe_int pa_nil))))) (pe_call G_Ldraw (hr.mono (by decide)) (by rfl) D_Ldraw.g D_Ldraw.F.kp D_Ldraw.b .nil pass0 (pa_cons (pv 0) (pa_cons pe_int pa_nil))) (fun _ _ => rfl)))
   (pss_one (ps_ret (pe_join pe_str (pe_lc (own := [("_law_k", 3)]) (g := (gName 3)) (tt := tYes) rfl sc_Ltext.nd (pi_range1 (by rfl) T.n_range (pa_cons (pv 2) pa_nil)) (blkOk_by (own := [("_law_k", 3)]) (N := N_Ltext) (sc := defScope s_Ltext) (by decide +kernel)) (fun _ _ _ _ _ => (pg_name (i := 3) sc_Ltext.nd rfl (.inl rfl))) (fun _ _ _ _ _ => pts_nil) (fun _ _ _ _ _ => (pe_ix ix_str (pv 1) (pe_call G_Ldraw (hr.mono (by decide)) (by rfl) D_Ldraw.g D_Ldraw.F.kp D_Ldraw.b .nil pass0 (pa_cons (pv 0) (pa_cons (pe_callB call_len_str (by rfl) T.n_len (by decide +kernel) (pa_cons (pv 1) pa_nil)) pa_nil))) (fun _ _ => rfl)))))))))), ?_⟩
  have el : (" !\"#$&'()*+,-./0123456789:;<=>?@ABCDEFGHIJKLMNOPQRSTUVWXYZ[\\]^_`" : Str) ++ ("abcdefghijklmnopqrstuvwxyz{|}~" : Str) = CHRS := rfl
  refine ⟨_, rfl, _, _, rfl, rfl, (show _ ≤ sizeLine by decide +kernel), ?_⟩
  rw [el]
  refine ⟨hS 4 (by decide), fun p np => ?_⟩
  have npb := W.neb np
  have e3 : (upd H p (.lst [.int 0, .int 1, .int 2, .int 12])) p = some (.lst [.int 0, .int 1, .int 2, .int 12]) := upd_same
  have g3 : Gr b H (upd H p (.lst [.int 0, .int 1, .int 2, .int 12])) := Gr.new np
  have W3 := W.new (o := .lst [.int 0, .int 1, .int 2, .int 12]) np
  generalize upd H p (.lst [.int 0, .int 1, .int 2, .int 12]) = H3 at e3 g3 W3
  refine ⟨.ref b, rfl, b, r, 4, rfl, W3, by decide, by decide, fun d H4 d0 d1 g4 W4 => ?_⟩
  have g04 := g3.trans g4
  obtain ⟨d, rfl⟩ := Int.eq_ofNat_of_zero_le d0
  obtain ⟨c, ec, hc⟩ : ∃ c : Nat, [V.int 0, V.int 1, V.int 2, V.int 12][d]? = some (.int (c : Int)) ∧ c ≤ 12 := by
   rcases d with _ | _ | _ | _ | d
   ·exact ⟨0, rfl, by decide⟩
   ·exact ⟨1, rfl, by decide⟩
   ·exact ⟨2, rfl, by decide⟩
   ·exact ⟨12, rfl, by decide⟩
   ·omega
  refine ⟨p, _, d, _, rfl, rfl, SqL.of (g4 _ _ npb e3), atI_nat ec, ?_⟩
  refine ⟨⟨_, rfl⟩, .int c, rfl, c, rfl, by omega, by omega, fun Da nD => ?_⟩
  have nDb := W4.neb nD
  have nDr := W4.ner nD
  refine lc_range (lo := 0) (n := c) (fun i H' => ∃ cs : List Nat, H' Da = some (.lst ((cs.map fun c => sgn c).map V.str)) ∧ cs.length = i ∧ (∀ c ∈ cs, 32 ≤ c ∧ c ≤ 126 ∧ c ≠ 37) ∧ Gr b H4 H' ∧ Box H' b r) ?_ ?_ ?_
  ·exact ⟨[], upd_same, rfl, (fun c m => nomatch m), Gr.new nD, W4.new nD⟩
  ·rintro i H5 hi ⟨cs, e5, hcs, ok5, g5, W5⟩
   refine ⟨rfl, lcT ⟨.str CHRS, rfl, .ref b, rfl, .str CHRS, rfl, CHRS, rfl, Nat.le_trans (Nat.le_of_eq chrs_len) (hS 94 (by decide)), b, r, (CHRS.length : Int), rfl, W5, by rw [chrs_len]; decide, by rw [chrs_len]; decide, fun d2 H6 d20 d21 g6 W6 => ?_⟩⟩
   rw [chrs_len] at d21
   obtain ⟨d2, rfl⟩ := Int.eq_ofNat_of_zero_le d20
   obtain ⟨ch, ech, h1, h2, h3⟩ := chrs_at (j := d2) (by omega)
   refine ⟨CHRS, _, ch, rfl, rfl, Nat.le_trans (Nat.le_of_eq chrs_len) (hS 94 (by decide)), ech, _, g6 _ _ nDb e5, lt _ (by rw [List.length_map, List.length_map]; omega), cs ++ [ch], ?_, by rw [List.length_append, hcs]; rfl, fun c' m => ?_, (g5.trans g6).upd nD, W6.upd nDb nDr⟩
   ·rw [upd_same, List.map_append, List.map_append]
    rfl
   ·rcases List.mem_append.mp m with m | m
    ·exact ok5 c' m
    ·rw [List.mem_singleton.mp m]
     exact ⟨h1, h2, h3⟩
  ·rintro H5 ⟨cs, e5, hcs, ok5, g5, W5⟩
   obtain ⟨t1, t2, t3⟩ := join_ok (cs := cs) (by omega) ok5
   have suml : ∀ l : List Nat, ((l.map fun c => sgn c).map (·.length)).sum = l.length := by
    intro l
    induction l with
    | nil => rfl
    | cons c l ih =>
     rw [List.map_cons, List.map_cons, List.sum_cons, ih, List.length_cons, show (sgn c).length = 1 from rfl]
     omega
   refine ⟨_, Da, cs.map fun c => sgn c, rfl, rfl, .inl (SqL.of e5), ?_, ?_⟩
   ·rw [suml, List.length_map, show ("" : Str).length = 0 by decide +kernel]
    omega
   ·exact k _ H5 t1 t2 (g04.trans g5) W5
end
end NW
namespace NW
open PySem PySem.Spec PyProof.Rows L2
open TL (tl)
open StX (pa_star)
abbrev s_Lpick : Stmt := topS 74
abbrev N_Lpick : List Str := ["_law_box_here", "_law_row"]
theorem sc_Lpick : FnScope N_Lpick ["_law_box_here", "_law_row"] (defScope s_Lpick) := ⟨rfl, rfl, rfl, by decide +kernel, rfl, by decide +kernel, by decide +kernel⟩
theorem Gr.tkB {b r : Addr} {H H' : Hp} (W : Box H b r) (g : Gr b H H') : Tk H H' := fun a xs e => by
 obtain ⟨ys, eb⟩ := W.lst
 exact g a _ (ne_of e eb (by intro z; cases z)) e
theorem Gr.dkB {b r a : Addr} {H H' : Hp} {kvs : List (Key × V)} (W : Box H b r) (g : Gr b H H') (e : H a = some (.dK kvs)) : H' a = some (.dK kvs) := by
 obtain ⟨ys, eb⟩ := W.lst
 exact g a _ (ne_of e eb (by intro z; cases z)) e
theorem SchT.gr {b r q kt ft ut : Addr} {H H' : Hp} {ks : List KRow} {fs : List FRow} {us : List URow} {root : Str} (W : Box H b r) (g : Gr b H H') (h : SchT H q kt ft ut ks fs us root) : SchT H' q kt ft ut ks fs us root := by
 obtain ⟨ys, eb⟩ := W.lst
 exact ⟨g.tkB W _ _ h.1, h.2.1.gr (.lst eb) g, h.2.2⟩
theorem SchT.same {q kt ft ut : Addr} {H H' : Hp} {ks : List KRow} {fs : List FRow} {us : List URow} {root : Str} (s : Same H H') (h : SchT H q kt ft ut ks fs us root) : SchT H' q kt ft ut ks fs us root := ⟨s _ _ h.1, h.2.1.same s, h.2.2⟩
theorem Box.same {b r : Addr} {H H' : Hp} (W : Box H b r) (s : Same H H') : Box H' b r := by
 obtain ⟨ys, eb⟩ := W.lst
 exact W.gr (fun a o _ e => s a o e) (by rw [eb, s _ _ eb])
section
variable {P : Program} {w : World} {K : PySem.W.Frag} {mg : Str → Option Value} {base : Heap}
def spLpickV : Sp := fun vs H Q _ => ∃ (b r p : Addr) (xs : List V), vs = [.ref b, .ref p] ∧ Box H b r ∧ H p = some (.lst xs) ∧ p ≠ b ∧ 0 < xs.length ∧ xs.length ≤ 1000 ∧ ∀ v H', v ∈ xs → Gr b H H' → Box H' b r → Q v H'
theorem ok_LpickV {f f1 : Addr} {fd fd1 : FuncData} (D : Df K mg "_law_pick" s_Lpick f fd ["_law_box_here", "_law_row"]) (D_Ldraw : Df K mg "_law_draw" s_Ldraw f1 fd1 ["_law_box_here", "_law_many"]) (T : Nms mg) : FnOk P w K mg base CX0 2 f fd ["_law_box_here", "_law_row"] spLpickV := by
 have G_Ldraw : FnOk P w K mg base CX0 1 f1 fd1 ["_law_box_here", "_law_many"] spLdraw := ok_Ldraw D_Ldraw T
 refine D.F.ok sc_Lpick (fun vs H Q E h => ?_) (fun cdv A outer s H vs Q E hr h => ?_)
 ·obtain ⟨b, r, p, l, rfl, _⟩ := h
  rfl
 ·obtain ⟨b, r, p, xs, rfl, B, hp, nb, l0, l1, q⟩ := h
  refine ⟨_, (pss_one (ps_ret (pe_ix ix_list (pv 1) (pe_call G_Ldraw (hr.mono (by decide)) (by rfl) D_Ldraw.g D_Ldraw.F.kp D_Ldraw.b .nil pass0 (pa_cons (pv 0) (pa_cons (pe_callB call_len_seq (by rfl) T.n_len (by decide +kernel) (pa_cons (pv 1) pa_nil)) pa_nil))) (fun _ _ => rfl)))), ?_⟩
  refine ⟨.ref p, rfl, .ref b, rfl, .ref p, rfl, p, _, rfl, .inl (SqL.of hp), b, r, (xs.length : Int), rfl, B, by omega, by omega, fun d H1 d0 d1 g1 B1 => ?_⟩
  obtain ⟨d, rfl⟩ := Int.eq_ofNat_of_zero_le d0
  have hd : d < xs.length := by omega
  exact ⟨p, _, d, xs[d], rfl, rfl, SqL.of (g1 _ _ nb hp), atI_nat (List.getElem?_eq_getElem hd), q _ _ (List.getElem_mem hd) g1 B1⟩
end
abbrev s_Lvalue : Stmt := topS 69
abbrev N_Lvalue : List Str := ["_law_box_here", "_law_schema_here", "_law_own", "_law_shape_here", "_law_bad", "_law_sure", "_law_many", "_law_members_here", "_law_things_here", "_law_k", "_law_thing"]
theorem sc_Lvalue : FnScope N_Lvalue ["_law_box_here", "_law_schema_here", "_law_own", "_law_shape_here", "_law_bad"] (defScope s_Lvalue) := ⟨rfl, rfl, rfl, by decide +kernel, rfl, by decide +kernel, by decide +kernel⟩
theorem tx_bs {ks : List KRow} {fs : List FRow} {us : List URow} {root : Str} (ok : SchOk ks fs us root) : ∀ z ∈ bsOf ks fs us, PyData.strOk z = true := by
 obtain ⟨k, mk, _⟩ := List.mem_map.mp ok.rt
 exact (ok.kd k mk).tx
theorem kdv_at {kd : List (Str × Str)} {p : Str × Str} (nd : (kd.map (·.1)).Nodup) (m : p ∈ kd) : valV (kdv kd) (Sum.inr p.1) = some (.str p.2) := valV_map (f := fun p : Str × Str => p.1) (g := fun p => V.str p.2) nd m
theorem shD_num (s : Shp) (z : Str) (hb : ∀ y, s ≠ .base y) : PyData.eqv (shD s) (.str z) = false := by
 cases s with
 | base y => exact absurd rfl (hb y)
 | sure s => simp [shD, PyData.eqv]
 | list s => simp [shD, PyData.eqv]
section
variable {P : Program} {w : World} {K : PySem.W.Frag} {mg : Str → Option Value} {base : Heap}
theorem str_dp {H : Hp} (z : Str) : Dp K H (.str z) (.str z) := .str z
def spLvalE (n : Nat) : Sp := fun vs H Q _ => ∃ (b r q kt ft ut od : Addr) (sv : V) (s : Shp) (bad : Nat) (ks : List KRow) (fs : List FRow) (us : List URow) (root : Str) (kd : List (Str × Str)) (m : Nat),
 vs = [.ref b, .ref q, .ref od, sv, .int (bad : Int)] ∧ Box H b r ∧ SchT H q kt ft ut ks fs us root ∧ ShAt H sv s ∧ okS (bsOf ks fs us) m false s ∧ m < n ∧ m ≤ 4 ∧ H od = some (.dK (kdv kd)) ∧ (kd.map (·.1)).Nodup ∧ kd.length ≤ 12 ∧ (∀ p ∈ kd, IsName p.1) ∧ bad ≤ 1000 ∧
 ∀ v d H', Gr b H H' → Box H' b r → VA (nw H H') m v d → VOk kd ks us s d → (bad = 0 → (∀ k ∈ ks.map (·.nm), ∃ p ∈ kd, p.2 = k) → Cln s d) → Q v H'
theorem ok_LvalE {f f1 f2 f3 f4 f5 f6 : Addr} {fd fd1 fd2 fd3 fd4 fd5 fd6 : FuncData} (D_Lvalue : Df K mg "_law_value" s_Lvalue f fd ["_law_box_here", "_law_schema_here", "_law_own", "_law_shape_here", "_law_bad"]) (D_Ldraw : Df K mg "_law_draw" s_Ldraw f1 fd1 ["_law_box_here", "_law_many"])
  (D_Lmembers : Df K mg "_law_members" s_Lmembers f2 fd2 ["_law_schema_here", "_law_base"]) (D_Lnumber : Df K mg "_law_number" s_Lnumber f3 fd3 ["_law_box_here"]) (D_Ltext : Df K mg "_law_text" s_Ltext f4 fd4 ["_law_box_here"]) (D_Ltarget : Df K mg "_law_target" s_Ltarget f5 fd5 ["_law_shape_here"])
  (D_Lpick : Df K mg "_law_pick" s_Lpick f6 fd6 ["_law_box_here", "_law_row"]) (T : Nms mg) : ∀ n : Nat, FnOk P w K mg base CX0 (n + 2) f fd ["_law_box_here", "_law_schema_here", "_law_own", "_law_shape_here", "_law_bad"] (spLvalE n) := by
 have G_Ldraw : FnOk P w K mg base CX0 1 f1 fd1 ["_law_box_here", "_law_many"] spLdraw := ok_Ldraw D_Ldraw T
 have G_Lmembers := ok_Lmembers (P := P) (w := w) (base := base) D_Lmembers T
 have G_Lnumber := ok_Lnumber (P := P) (w := w) (base := base) D_Lnumber D_Ldraw T
 have G_Ltext := ok_Ltext (P := P) (w := w) (base := base) D_Ltext D_Ldraw T
 have G_Ltarget := ok_Ltarget (P := P) (w := w) (base := base) D_Ltarget T
 have G_Lpick := ok_LpickV (P := P) (w := w) (base := base) D_Lpick D_Ldraw T
 intro n
 induction n with
 | zero =>
  refine D_Lvalue.F.ok sc_Lvalue (fun vs H Q E h => ?_) (fun cdv A outer sh H vs Q E hr h => ?_)
  ·obtain ⟨b, r, q, kt, ft, ut, od, sv, s, bad, ks, fs, us, root, kd, m, rfl, _⟩ := h
   rfl
  ·obtain ⟨b, r, q, kt, ft, ut, od, sv, s, bad, ks, fs, us, root, kd, m, _, _, _, _, _, hm, _⟩ := h
   exact absurd hm (Nat.not_lt_zero m)
 | succ n ih =>
  have G_Lvalue := ih
  refine D_Lvalue.F.ok sc_Lvalue (fun vs H Q E h => ?_) (fun cdv A outer sh H vs Q E hr h => ?_)
  ·obtain ⟨b, r, q, kt, ft, ut, od, sv, s, bad, ks, fs, us, root, kd, m, rfl, _⟩ := h
   rfl
  obtain ⟨b, r, q, kt, ft, ut, od, sv, s, bad, ks, fs, us, root, kd, m, rfl, W, sch, hv, hs, hm, hm4, hod, knd, k12, hkn, hbad, k⟩ := h
  have hu := hu_of hr
  have lt : ∀ n : Nat, n ≤ 1000 → n < sizeLine := fun n h => Nat.lt_of_le_of_lt h (by decide)
  have hS : ∀ n : Nat, n ≤ 1000 → n ≤ sizeLine := fun n h => Nat.le_trans h (by decide)
  have ok : SchOk ks fs us root := sch.2.2
  refine ⟨_, (pss_cons (ps_set (i := 5) sc_Lvalue.nd rfl (.inl rfl) (pe_mono (pe_and (pe_not (pe_callB call_isi (by rfl) T.n_isinstance (by decide +kernel) (pa_cons (pv 3) (pa_cons (pe_bltn (v := .ty "str") (by rfl) T.n_str (by decide +kernel) rfl) pa_nil)))) (pe_one (pe_cmpR op_eq (pe_ix ix_tup (pv 3) pe_int (fun _ _ => rfl)) pe_str (nomark _))))))
   (pss_cons (ps_mono (ps_if (PW.pt (pw_and (pt_cmpR op_gt (pv 4) pe_int (nomark _)) (pw_and1 (pt_cmpR op_eq (pe_call G_Ldraw (hr.mono (by omega)) (by rfl) D_Ldraw.g D_Ldraw.F.kp D_Ldraw.b .nil pass0 (pa_cons (pv 0) (pa_cons (pv 4) pa_nil))) pe_int (nomark _)))))
    (pss_one (ps_ret (pe_ix ix_list (pe_lst (pa_cons pe_non (pa_cons (pe_tup (pa_cons pe_str pa_nil)) pa_nil))) (pe_call G_Ldraw (hr.mono (by omega)) (by rfl) D_Ldraw.g D_Ldraw.F.kp D_Ldraw.b .nil pass0 (pa_cons (pv 0) (pa_cons pe_int pa_nil))) (fun _ _ => rfl))))
    pss_nil))
   (pss_cons (ps_mono (ps_if (PW.pt (pw_and (pt_not (pt_val (pv 5))) (pw_and1 (pt_cmpR op_eq (pe_call G_Ldraw (hr.mono (by omega)) (by rfl) D_Ldraw.g D_Ldraw.F.kp D_Ldraw.b .nil pass0 (pa_cons (pv 0) (pa_cons pe_int pa_nil))) pe_int (nomark _)))))
    (pss_one (ps_ret pe_non))
    pss_nil))
   (pss_cons (ps_mono (ps_if (pt_val (pv 5))
    (pss_one (ps_set (i := 3) sc_Lvalue.nd rfl (.inr rfl) (pe_ix ix_tup (pv 3) pe_int (fun _ _ => rfl))))
    pss_nil))
   (pss_cons (ps_mono (ps_if (PW.pt (pw_or (pt_cmpR (op_eqD hr.units) (pv 3) pe_str (nomark _)) (pw_or1 (pt_cmpR (op_eqD hr.units) (pv 3) pe_str (nomark _)))))
    (pss_one (ps_ret (pe_ix ix_list (pe_lst (pa_cons (pe_call G_Lnumber (hr.mono (by omega)) (by rfl) D_Lnumber.g D_Lnumber.F.kp D_Lnumber.b .nil pass0 (pa_cons (pv 0) pa_nil)) (pa_cons (pe_call G_Ltext (hr.mono (by omega)) (by rfl) D_Ltext.g D_Ltext.F.kp D_Ltext.b .nil pass0 (pa_cons (pv 0) pa_nil)) pa_nil))) (pe_callTy call_int1 (by rfl) T.n_int (by decide +kernel) (pa_cons (pe_cmpR (op_eqD hr.units) (pv 3) pe_str (nomark _)) pa_nil)) (fun _ _ => rfl))))
    pss_nil))
   (pss_cons (ps_if (pt_not (pt_val (pe_callB call_isi (by rfl) T.n_isinstance (by decide +kernel) (pa_cons (pv 3) (pa_cons (pe_bltn (v := .ty "str") (by rfl) T.n_str (by decide +kernel) rfl) pa_nil)))))
    (pss_cons (ps_set (i := 6) sc_Lvalue.nd rfl (.inl rfl) (pe_call G_Ldraw (hr.mono (by omega)) (by rfl) D_Ldraw.g D_Ldraw.F.kp D_Ldraw.b .nil pass0 (pa_cons (pv 0) (pa_cons (pe_ix ix_list (pe_lst (pa_cons pe_int (pa_cons pe_int pa_nil))) (pe_callTy call_int1 (by rfl) T.n_int (by decide +kernel) (pa_cons (pe_cmpR op_in_seq (pe_call G_Ltarget (hr.mono (by omega)) (by rfl) D_Ltarget.g D_Ltarget.F.kp D_Ltarget.b .nil pass0 (pa_cons (pv 3) pa_nil)) (pe_lst (pa_cons pe_str (pa_cons pe_str pa_nil))) (by rfl)) pa_nil)) (fun _ _ => rfl)) pa_nil))))
    (pss_one (ps_ret (pe_lc (own := [("_law_k", 9)]) (g := (gName 9)) (tt := tYes) rfl sc_Lvalue.nd (pi_range1 (by rfl) T.n_range (pa_cons (pv 6) pa_nil)) (blkOk_by (own := [("_law_k", 9)]) (N := N_Lvalue) (sc := defScope s_Lvalue) (by decide +kernel)) (fun _ _ _ _ _ => (pg_name (i := 9) sc_Lvalue.nd rfl (.inl rfl))) (fun _ _ _ _ _ => pts_nil) (fun _ _ _ _ _ => (pe_call G_Lvalue (hr.mono (by omega)) (by rfl) D_Lvalue.g D_Lvalue.F.kp D_Lvalue.b .nil pass0 (pa_cons (pv 0) (pa_cons (pv 1) (pa_cons (pv 2) (pa_cons (pe_ix (ix_tupK K) (pv 3) pe_int (fun _ _ => rfl)) (pa_cons (pv 4) pa_nil)))))))))))
    pss_nil)
   (pss_cons (ps_set (i := 7) sc_Lvalue.nd rfl (.inr rfl) (pe_call G_Lmembers (hr.mono (by omega)) (by rfl) D_Lmembers.g D_Lmembers.F.kp D_Lmembers.b .nil pass0 (pa_cons (pv 1) (pa_cons (pv 3) pa_nil))))
   (pss_cons (ps_setLc (i := 8) (own := [("_law_thing", 10)]) (g := (gName 10)) rfl sc_Lvalue.nd rfl rfl (sw_true rfl rfl rfl (by decide +kernel)) (pi_list (pe_callB (call_sortedD rfl) (by rfl) T.n_sorted (by decide +kernel) (pa_cons (pv 2) pa_nil))) (blkOk_by (own := [("_law_thing", 10)]) (N := N_Lvalue) (sc := defScope s_Lvalue) (by decide +kernel)) (fun _ _ _ _ _ => (pg_name (i := 10) sc_Lvalue.nd rfl (.inl rfl))) (fun _ _ _ _ _ => pts_one (pt_cmpR (op_in_seqK K) (pe_dget hu (pv 2) (pv 10) (fun _ _ => rfl)) (pv 7) (by rfl))) (fun _ _ _ _ _ => (pv 10)))
   (pss_one (ps_ret (pe_call G_Lpick (hr.mono (by omega)) (by rfl) D_Lpick.g D_Lpick.F.kp D_Lpick.b .nil pass0 (pa_cons (pv 0) (pa_cons (pe_op op_cat (pv 8) (pe_op op_rep (pe_lst (pa_cons pe_non pa_nil)) (pe_callTy call_int1 (by rfl) T.n_int (by decide +kernel) (pa_cons (pe_cmpR (op_eqD hr.units) (pv 8) (pe_lst pa_nil) (nomark _)) pa_nil)))) pa_nil))))))))))))), ?_⟩
  refine ⟨fun x H1 => x = .bl s.isSure ∧ H = H1, ?_, ?_⟩
  ·cases s with
   | base z =>
    obtain rfl : sv = .str z := hv
    exact ⟨.str z, rfl, _, _, _, _, true, rfl, .ty "str", .base (.str z), kit_ty (by decide +kernel), true, rfl, false, rfl, iteF ⟨rfl, rfl⟩⟩
   | list s' =>
    obtain ⟨a, u, rfl, ha, hu'⟩ := (show ∃ a u, sv = .ref a ∧ H a = some (.tup [.str "list", u]) ∧ ShAt H u s' from hv)
    exact ⟨.ref a, rfl, _, _, _, _, false, rfl, .ty "str", .base (.tup ha), kit_ty (by decide +kernel), false, rfl, true, rfl, iteT ⟨.ref a, rfl, a, _, 0, _, rfl, rfl, .inl (.inl ha), atI_nat (j := 0) rfl, rfl, blF (fun e => by revert e; decide +kernel), rfl⟩⟩
   | sure s' =>
    obtain ⟨a, u, rfl, ha, hu'⟩ := (show ∃ a u, sv = .ref a ∧ H a = some (.tup [.str "sure", u]) ∧ ShAt H u s' from id hv)
    exact ⟨.ref a, rfl, _, _, _, _, false, rfl, .ty "str", .base (.tup ha), kit_ty (by decide +kernel), false, rfl, true, rfl, iteT ⟨.ref a, rfl, a, _, 0, _, rfl, rfl, .inl (.inl ha), atI_nat (j := 0) rfl, rfl, blT rfl, rfl⟩⟩
  rintro _ _ ⟨rfl, rfl⟩
  generalize hsu : s.isSure = su
  refine ⟨fun σ' H' => σ' = [some (.ref b), some (.ref q), some (.ref od), some sv, some (.int (bad : Int)), some (.bl su), none, none, none, none, none] ∧ Gr b H H' ∧ Box H' b r, ?_, ?_⟩
  ·refine ⟨.int (bad : Int), rfl, _, _, rfl, rfl, _, rfl, ite2 (fun e => ?_) (fun e => ⟨rfl, Gr.refl, W⟩)⟩
   have b0 : (bad : Int) > 0 := of_decide_eq_true e
   refine ⟨.ref b, rfl, .int (bad : Int), rfl, b, r, (bad : Int), rfl, W, by omega, by omega, fun d1 H1 d10 d11 g1 W1 => ⟨rfl, _, rfl, ite2 (fun e => ?_) (fun e => ⟨rfl, g1, W1⟩)⟩⟩
   refine ⟨hS 1 (by decide), fun ta nta => ?_⟩
   have nta0 : H ta = none := g1.free (W1.neb nta) nta
   have e2 : (upd H1 ta (.tup [.str "fail"])) ta = some (.tup [.str "fail"]) := upd_same
   have g2 : Gr b H (upd H1 ta (.tup [.str "fail"])) := g1.trans (Gr.new nta)
   have W2 := W1.new (o := .tup [.str "fail"]) nta
   generalize upd H1 ta (.tup [.str "fail"]) = H2 at e2 g2 W2
   refine ⟨hS 2 (by decide), fun p np => ?_⟩
   have npb := W2.neb np
   have e3 : (upd H2 p (.lst [.non, .ref ta])) p = some (.lst [.non, .ref ta]) := upd_same
   have eta3 : (upd H2 p (.lst [.non, .ref ta])) ta = some (.tup [.str "fail"]) := by rw [upd_ne (ne_of_none e2 np)]; exact e2
   have g3 : Gr b H (upd H2 p (.lst [.non, .ref ta])) := g2.trans (Gr.new np)
   have W3 := W2.new (o := .lst [.non, .ref ta]) np
   generalize upd H2 p (.lst [.non, .ref ta]) = H3 at e3 eta3 g3 W3
   refine ⟨.ref b, rfl, b, r, 2, rfl, W3, by decide, by decide, fun d2 H4 d20 d21 g4 W4 => ?_⟩
   have e4 := g4 _ _ npb e3
   have eta := g4.tkB W3 _ _ eta3
   obtain ⟨d2, rfl⟩ := Int.eq_ofNat_of_zero_le d20
   have nb0 : bad = 0 → (∀ k ∈ ks.map (·.nm), ∃ p ∈ kd, p.2 = k) → ∀ d, Cln s d := fun z => by omega
   rcases d2 with _ | _ | d2
   ·exact ⟨p, _, 0, .non, rfl, rfl, SqL.of e4, atI_nat (j := 0) rfl, k .non .none H4 (g3.trans g4) W4 (.non m) (.non s) fun z y => nb0 z y _⟩
   ·exact ⟨p, _, 1, .ref ta, rfl, rfl, SqL.of e4, atI_nat (j := 1) rfl, k (.ref ta) failD H4 (g3.trans g4) W4 (.fail m (by rw [nw_new nta0]; exact eta)) (.fail s) fun z y => nb0 z y _⟩
   ·omega
  rintro _ H1 ⟨rfl, g1, W1⟩
  refine ⟨fun σ' H' => σ' = [some (.ref b), some (.ref q), some (.ref od), some sv, some (.int (bad : Int)), some (.bl su), none, none, none, none, none] ∧ Gr b H H' ∧ Box H' b r, ?_, ?_⟩
  ·cases su with
   | true => exact ⟨.bl true, rfl, true, rfl, iteF ⟨rfl, g1, W1⟩⟩
   | false =>
    refine ⟨.bl false, rfl, false, rfl, iteT ⟨.ref b, rfl, b, r, 6, rfl, W1, by decide, by decide, fun d1 H2 d10 d11 g2 W2 => ⟨rfl, _, rfl, ite2 (fun e => ?_) (fun e => ⟨rfl, g1.trans g2, W2⟩)⟩⟩⟩
    refine k .non .none H2 (g1.trans g2) W2 (.non m) (.non s) fun _ _ => ?_
    cases s with
    | base z => intro z; cases z
    | list s' => exact .inl rfl
    | sure s' => cases hsu
  rintro _ H2 ⟨rfl, g2, W2⟩
  have hv2 : ShAt H2 sv s := by
   obtain ⟨ys, eb⟩ := W.lst
   exact hv.gr (.inl eb) g2
  refine ⟨fun σ' H' => ∃ (sv' : V) (s' : Shp) (m' : Nat), σ' = [some (.ref b), some (.ref q), some (.ref od), some sv', some (.int (bad : Int)), some (.bl su), none, none, none, none, none] ∧ H2 = H' ∧ ShAt H2 sv' s' ∧ s'.isSure = false ∧ m' ≤ m ∧ okS (bsOf ks fs us) m' false s' ∧ (∀ d, VOk kd ks us s' d → VOk kd ks us s d) ∧ ∀ d, d ≠ .none → Cln s' d → Cln s d, ?_, ?_⟩
  ·cases su with
   | false => exact ⟨.bl false, rfl, false, rfl, iteF ⟨sv, s, m, rfl, rfl, hv2, hsu, Nat.le_refl _, hs, fun _ h => h, fun _ _ h => h⟩⟩
   | true =>
    cases s with
    | base z => cases hsu
    | list s' => cases hsu
    | sure s' =>
     obtain ⟨a, u, rfl, ha, hu'⟩ := (show ∃ a u, sv = .ref a ∧ H2 a = some (.tup [.str "sure", u]) ∧ ShAt H2 u s' from id hv2)
     cases m with
     | zero => exact (show False from hs).elim
     | succ m =>
      have hs' : okS (bsOf ks fs us) m true s' := hs.2
      have hn : s'.isSure = false := by
       cases s' with
       | base z => rfl
       | list z => rfl
       | sure z =>
        cases m with
        | zero => exact (show False from hs').elim
        | succ m => exact absurd hs'.1 (by decide)
      have hs2 : okS (bsOf ks fs us) m false s' := by
       cases s' with
       | base z => cases m <;> exact hs'
       | list z => cases m <;> exact hs'
       | sure z => cases hn
      exact ⟨.bl true, rfl, true, rfl, iteT ⟨.ref a, rfl, a, _, 1, _, rfl, rfl, .inl (.inl ha), atI_nat (j := 1) rfl, u, s', m, rfl, rfl, hu', hn, Nat.le_succ m, hs2, fun d h => .sure h, fun d h1 h2 => ⟨h1, h2⟩⟩⟩
  rintro _ _ ⟨sv', s', m', rfl, rfl, hv', hn, hm', hs', hvo, hcl⟩
  have sch2 := sch.gr W g2
  have hod2 := g2.dkB W hod
  have tx : ∀ z ∈ bsOf ks fs us, PyData.strOk z = true := tx_bs ok
  have hs4 : okS (bsOf ks fs us) 4 false s' := okS_mono (by omega) hs'
  have shp := shD_ok tx hs4
  have nsh : SeqAt.shaped (.str "number") = true := by decide +kernel
  have tsh : SeqAt.shaped (.str "text") = true := by decide +kernel
  cases s' with
  | sure _ => cases hn
  | list s2 =>
   obtain ⟨a, u, rfl, ha, hu'⟩ := (show ∃ a u, sv' = .ref a ∧ H2 a = some (.tup [.str "list", u]) ∧ ShAt H2 u s2 from id hv')
   cases m' with
   | zero => exact (show False from hs').elim
   | succ m2 =>
    have hs2 : okS (bsOf ks fs us) m2 false s2 := hs'
    refine ⟨fun σ' H' => σ' = [some (.ref b), some (.ref q), some (.ref od), some (.ref a), some (.int (bad : Int)), some (.bl su), none, none, none, none, none] ∧ H2 = H', ⟨.ref a, rfl, shD (.list s2), .str "number", shD_dp hv', str_dp _, shp, nsh, false, congrArg V.bl (shD_num _ _ (fun _ z => nomatch z)), iteF ⟨.ref a, rfl, shD (.list s2), .str "text", shD_dp hv', str_dp _, shp, tsh, false, congrArg V.bl (shD_num _ _ (fun _ z => nomatch z)), iteF ⟨rfl, rfl⟩⟩⟩, ?_⟩
    rintro _ _ ⟨rfl, rfl⟩
    refine ⟨.ref a, rfl, _, _, _, _, false, rfl, .ty "str", .base (.tup ha), kit_ty (by decide +kernel), false, rfl, iteT ?_⟩
    have hdep := okS_dep hs4
    refine ⟨.ref b, rfl, hS 2 (by decide), fun p np => ?_⟩
    have npb := W2.neb np
    have e3 : (upd H2 p (.lst [.int 3, .int 7])) p = some (.lst [.int 3, .int 7]) := upd_same
    have s3 := same_new (o := .lst [.int 3, .int 7]) np
    generalize upd H2 p (.lst [.int 3, .int 7]) = H3 at s3 e3
    refine ⟨.ref a, rfl, .ref a, .list s2, rfl, hv'.same s3, hdep, ?_⟩
    refine ⟨hS 2 (by decide), fun p2 np2 => ?_⟩
    have e4 : (upd H3 p2 (.lst [.str "number", .str "text"])) p2 = some (.lst [.str "number", .str "text"]) := upd_same
    have s4 := same_new (o := .lst [.str "number", .str "text"]) np2
    generalize upd H3 p2 (.lst [.str "number", .str "text"]) = H4 at s4 e4
    have e34 := s4 _ _ e3
    refine ⟨p2, _, rfl, .inl (SqL.of e4), rfl, by decide, ?_⟩
    refine .inr ⟨_, rfl, ?_⟩
    generalize (if false = true then !inV (V.str s2.list.tgt) [V.str (Str.ofString "number"), V.str (Str.ofString "text")] else inV (V.str s2.list.tgt) [V.str (Str.ofString "number"), V.str (Str.ofString "text")]) = lf
    obtain ⟨mc, emc, mc1, mc7⟩ : ∃ mc : Nat, atI [V.int 3, V.int 7] (if lf = true then 1 else 0) = some (.int (mc : Int)) ∧ 1 ≤ mc ∧ mc ≤ 7 := by
     cases lf
     ·exact ⟨3, atI_nat (j := 0) rfl, by decide, by decide⟩
     ·exact ⟨7, atI_nat (j := 1) rfl, by decide, by decide⟩
    have s24 := s3.trans s4
    have W4 := W2.same s24
    refine ⟨p, _, _, _, rfl, rfl, SqL.of e34, emc, b, r, (mc : Int), rfl, W4, by omega, by omega, fun d H5 d0 d1 g5 W5 => ?_⟩
    obtain ⟨mn, rfl⟩ := Int.eq_ofNat_of_zero_le d0
    have g25 : Gr b H2 H5 := fun x o n e => g5 x o n (s24 x o e)
    have g05 := g2.trans g25
    have ha5 := g25.tkB W2 _ _ ha
    have hu5 : ShAt H5 u s2 := by
     obtain ⟨ys, eb⟩ := W2.lst
     exact hu'.gr (.inl eb) g25
    have sch5 := sch2.gr W2 g25
    have hod5 := g25.dkB W2 hod2
    have mn6 : mn ≤ 6 := by omega
    refine ⟨.int mn, rfl, mn, rfl, by omega, by omega, fun Da nD => ?_⟩
    have nDb := W5.neb nD
    have nDr := W5.ner nD
    have nD0 : H Da = none := g05.free nDb nD
    have ntb : ∀ {G : Hp} {x : Addr} {xs : List V}, Box G b r → G x = some (.tup xs) → x ≠ b := fun {G x xs} w e => by
     obtain ⟨ys, eb⟩ := w.lst
     exact ne_of e eb (by intro z; cases z)
    refine lc_range (lo := 0) (n := mn) (fun i H' => ∃ (ys : List V) (ds : List PyData), H' Da = some (.lst ys) ∧ ys.length = i ∧ ds.length = i ∧ Gr b H5 H' ∧ Box H' b r ∧ (∀ (j : Nat) y d, ys[j]? = some y → ds[j]? = some d → VA (nw (upd H5 Da (.lst [])) H') m2 y d) ∧ ∀ d ∈ ds, VOk kd ks us s2 d ∧ (bad = 0 → (∀ k ∈ ks.map (·.nm), ∃ p ∈ kd, p.2 = k) → Cln s2 d)) ?_ ?_ ?_
    ·exact ⟨[], [], upd_same, rfl, rfl, Gr.new nD, W5.new nD, (fun j y d e => by simp at e), fun d m => nomatch m⟩
    ·rintro i H6 hi ⟨ys, ds, e6, hys, hds, g6, W6, va6, ok6⟩
     refine ⟨rfl, lcT ⟨.ref b, rfl, .ref q, rfl, .ref od, rfl, .ref a, rfl, a, _, 1, _, rfl, rfl, .inl (.inl (g6.tkB W5 _ _ ha5)), atI_nat (j := 1) rfl, .int (bad : Int), rfl,
      b, r, q, kt, ft, ut, od, u, s2, bad, ks, fs, us, root, kd, m2, rfl, W6, sch5.gr W5 g6, (by
       obtain ⟨ys, eb⟩ := W5.lst
       exact hu5.gr (.inl eb) g6), hs2, by omega, by omega, g6.dkB W5 hod5, knd, k12, hkn, hbad, fun v d H7 g7 W7 va vo cl => ?_⟩⟩
     have e7 := g7 _ _ nDb e6
     have tk7 : Tk H6 H7 := g7.tkB W6
     have up : Same (nw (upd H5 Da (.lst [])) H7) (nw (upd H5 Da (.lst [])) (upd H7 Da (.lst (ys ++ [v])))) := nw_go fun x o h h6 => by
      by_cases z : x = Da
      ·subst z; rw [upd_same] at h; cases h
      ·rw [upd_ne z]; exact h6
     have old : Same (nw (upd H5 Da (.lst [])) H6) (nw (upd H5 Da (.lst [])) H7) := nw_go fun x o h h5 => by
      by_cases z : x = Da
      ·subst z; rw [upd_same] at h; cases h
      ·rw [upd_ne z] at h
       exact g7 _ _ (W5.neb h) h5
     have new : Same (nw H6 H7) (nw (upd H5 Da (.lst [])) H7) := nw_in (fun x h => by
      have z : x ≠ Da := fun z => by subst z; rw [e6] at h; cases h
      rw [upd_ne z]
      exact g6.free (W6.neb h) h) (fun x xs h => by
      have z : x ≠ Da := fun z => by subst z; rw [e6] at h; cases h
      rw [upd_ne z]
      cases h4 : H5 x with
      | none => exact .inl rfl
      | some o => exact .inr ((g6 _ _ (ntb W6 h) h4).symm.trans h)) tk7
     refine ⟨ys, e7, lt _ (by omega), ys ++ [v], ds ++ [d], upd_same, by rw [List.length_append, hys]; rfl, by rw [List.length_append, hds]; rfl, (g6.trans g7).upd nD, W7.upd nDb nDr, fun j y d' ey ed => ?_, fun d' md => ?_⟩
     ·by_cases hj : j < ys.length
      ·rw [List.getElem?_append_left hj] at ey
       rw [List.getElem?_append_left (by omega)] at ed
       exact ((va6 j y d' ey ed).same old).same up
      ·have hj2 : j = ys.length := by
        have := (List.getElem?_eq_some_iff.mp ey).1
        rw [List.length_append] at this
        simp only [List.length_cons, List.length_nil] at this
        omega
       subst hj2
       rw [List.getElem?_append_right (Nat.le_refl _), Nat.sub_self] at ey
       rw [List.getElem?_append_right (by omega), show ys.length - ds.length = 0 by omega] at ed
       cases ey
       cases ed
       exact (va.same new).same up
     ·rcases List.mem_append.mp md with md | md
      ·exact ok6 d' md
      ·rw [List.mem_singleton.mp md]
       exact ⟨vo, cl⟩
    ·rintro H6 ⟨ys, ds, e6, hys, hds, g6, W6, va6, ok6⟩
     have g06 := g05.trans g6
     have out : Same (nw (upd H5 Da (.lst [])) H6) (nw H H6) := nw_in (fun x h => by
      by_cases z : x = Da
      ·subst z; exact nD0
      ·rw [upd_ne z] at h
       exact g05.free (W5.neb h) h) (fun x xs h => by
      have z : x ≠ Da := fun z => by subst z; rw [upd_same] at h; cases h
      rw [upd_ne z] at h
      cases h4 : H x with
      | none => exact .inl rfl
      | some o => exact .inr ((g05 _ _ (ntb W5 h) h4).symm.trans h)) (fun x xs h => by
      have z : x ≠ Da := fun z => by subst z; rw [upd_same] at h; cases h
      rw [upd_ne z] at h
      exact g6.tkB W5 _ _ h)
     exact k (.ref Da) (.list ds) H6 g06 W6 ((VA.lst m2 (by rw [nw_new nD0]; exact e6) (by omega) (by omega) fun j y d ey ed => (va6 j y d ey ed).same out).up hm')
      (hvo _ (.lst (by omega) fun d m => (ok6 d m).1)) (fun hc hv => hcl _ (by intro z; cases z) (.inr ⟨ds, rfl, fun d m => (ok6 d m).2 hc hv⟩))
  | base z =>
   obtain rfl : sv' = .str z := hv'
   have hz : z ∈ bsOf ks fs us := by cases m' <;> exact hs'
   have eqn : PyData.eqv (shD (.base z)) (.str "number") = decide (z = "number") := by simp [shD, PyData.eqv]; rw [Bool.eq_iff_iff, beq_iff_eq, decide_eq_true_iff]
   have eqt : PyData.eqv (shD (.base z)) (.str "text") = decide (z = "text") := by simp [shD, PyData.eqv]; rw [Bool.eq_iff_iff, beq_iff_eq, decide_eq_true_iff]
   refine ⟨fun σ' H' => σ' = [some (.ref b), some (.ref q), some (.ref od), some (.str z), some (.int (bad : Int)), some (.bl su), none, none, none, none, none] ∧ H2 = H' ∧ z ≠ "number" ∧ z ≠ "text", ?_, ?_⟩
   ·by_cases hn : z = "number"
    ·refine ⟨.str z, rfl, shD (.base z), .str "number", str_dp z, str_dp _, shp, nsh, true, congrArg V.bl (by rw [eqn, decide_eq_true hn]), iteT ?_⟩
     have nt : ¬ z = "text" := fun e => by rw [hn] at e; revert e; decide +kernel
     refine ⟨.ref b, rfl, b, r, rfl, W2, fun i H3 hi g3 W3 => ⟨.ref b, rfl, b, r, rfl, W3, fun x H4 hx1 hx2 g4 W4 => ⟨hS 2 (by decide), fun p np => ?_⟩⟩⟩
     have gt : Gr b H (upd H4 p (.lst [.int i, .str x])) := ((g2.trans g3).trans g4).trans (Gr.new np)
     have ep : (upd H4 p (.lst [.int i, .str x])) p = some (.lst [.int i, .str x]) := upd_same
     have Wp := W4.new (o := .lst [.int i, .str x]) np
     generalize upd H4 p (.lst [.int i, .str x]) = H5 at gt ep Wp
     refine ⟨.str z, rfl, shD (.base z), .str "text", str_dp z, str_dp _, shp, tsh, .inr ⟨_, rfl, p, _, 0, (.int i), rfl, (by rw [eqt, decide_eq_false nt]; rfl), SqL.of ep, atI_nat (j := 0) rfl, ?_⟩⟩
     exact k (.int i) (.int i) H5 gt Wp (.num m i) (hvo _ (by subst hn; exact .num hi)) fun _ _ => hcl _ (by intro z; cases z) (by intro z; cases z)
    ·refine ⟨.str z, rfl, shD (.base z), .str "number", str_dp z, str_dp _, shp, nsh, false, congrArg V.bl (by rw [eqn, decide_eq_false hn]), iteF ?_⟩
     by_cases ht : z = "text"
     ·refine ⟨.str z, rfl, shD (.base z), .str "text", str_dp z, str_dp _, shp, tsh, true, congrArg V.bl (by rw [eqt, decide_eq_true ht]), iteT ?_⟩
      refine ⟨.ref b, rfl, b, r, rfl, W2, fun i H3 hi g3 W3 => ⟨.ref b, rfl, b, r, rfl, W3, fun x H4 hx1 hx2 g4 W4 => ⟨hS 2 (by decide), fun p np => ?_⟩⟩⟩
      have gt : Gr b H (upd H4 p (.lst [.int i, .str x])) := ((g2.trans g3).trans g4).trans (Gr.new np)
      have ep : (upd H4 p (.lst [.int i, .str x])) p = some (.lst [.int i, .str x]) := upd_same
      have Wp := W4.new (o := .lst [.int i, .str x]) np
      generalize upd H4 p (.lst [.int i, .str x]) = H5 at gt ep Wp
      refine ⟨.str z, rfl, shD (.base z), .str "text", str_dp z, str_dp _, shp, tsh, .inr ⟨_, rfl, p, _, 1, (.str x), rfl, (by rw [eqt, decide_eq_true ht]; rfl), SqL.of ep, atI_nat (j := 1) rfl, ?_⟩⟩
      exact k (.str x) (.str x) H5 gt Wp (.txt m hx2 (Nat.le_trans hx1.1 (by decide))) (hvo _ (by subst ht; exact .txt hx1)) fun _ _ => hcl _ (by intro z; cases z) (by intro z; cases z)
     ·exact ⟨.str z, rfl, shD (.base z), .str "text", str_dp z, str_dp _, shp, tsh, false, congrArg V.bl (by rw [eqt, decide_eq_false ht]), iteF ⟨rfl, rfl, hn, ht⟩⟩
   rintro _ _ ⟨rfl, rfl, nnum, ntxt⟩
   refine ⟨.str z, rfl, _, _, _, _, true, rfl, .ty "str", .base (.str z), kit_ty (by decide +kernel), true, rfl, iteF ?_⟩
   refine ⟨.ref q, rfl, .str z, rfl, q, kt, ft, ut, ks, fs, us, root, z, rfl, sch2, fun l p1 H3 hml s3 np1 e3 => ?_⟩
   obtain ⟨lne, l6, lk⟩ := mem_ks ok hz nnum ntxt hml
   have W3 := W2.same s3
   have hod3 := s3 _ _ hod2
   have g03 : Gr b H H3 := fun x o n e => s3 x o (g2 x o n e)
   refine ⟨.ref od, rfl, od, kdv kd, kd.map (·.1), rfl, .inl hod3, (by unfold kdv; rw [List.map_map, List.map_map]; rfl), by rw [List.length_map]; omega, fun ys ps pm so nps => ?_⟩
   have s4 := same_new (o := .lst (ys.map V.str)) nps
   have e4 : (upd H3 ps (.lst (ys.map V.str))) ps = some (.lst (ys.map V.str)) := upd_same
   generalize upd H3 ps (.lst (ys.map V.str)) = H4 at s4 e4
   have W4 := W3.same s4
   have e14 := s4 _ _ e3
   have hod4 := s4 _ _ hod3
   have yl : ys.length ≤ 12 := by rw [pm.length_eq, List.length_map]; exact k12
   have knd' : ∀ y ∈ ys, ∃ c ∈ kd, c.1 = y := fun y my => List.mem_map.mp (pm.mem_iff.mp my)
   refine ⟨ps, rfl, ⟨_, SqL.of e4⟩, fun Da nD => ?_⟩
   obtain ⟨kp, hkp⟩ : ∃ kp : Str → Bool, ∀ y, kp y = true ↔ ∃ c ∈ kd, c.1 = y ∧ c.2 ∈ l := ⟨fun y => decide (∃ c ∈ kd, c.1 = y ∧ c.2 ∈ l), fun y => decide_eq_true_iff⟩
   refine lc_it (walk_list (xs := ys.map V.str)) (fun i H' => Same H4 H' ∧ H' Da = some (.lst (((ys.take i).filter kp).map V.str))) ⟨same_new nD, upd_same⟩ (fun i H' _ p => SqL.of (p.1 _ _ e4)) ?_ ?_
   ·rintro i x H5 H6 hi ⟨sm, e5⟩ ⟨rfl, ex⟩
    rw [List.length_map] at hi
    have ey : ys[i]? = some ys[i] := List.getElem?_eq_getElem hi
    rw [List.getElem?_map, ey] at ex
    cases ex
    obtain ⟨c, mc, ec⟩ := knd' ys[i] (List.getElem_mem hi)
    have hc := kdv_at knd mc
    rw [ec] at hc
    refine ⟨rfl, .ref od, rfl, .str ys[i], rfl, od, .str c.2, rfl, .inl ⟨kdv kd, .inr ys[i], .inl (sm _ _ hod4), rfl, hc.symm⟩, .ref p1, rfl, p1, _, rfl, .inl (SqL.of (sm _ _ e14)), rfl, flat_map _, _, rfl, ?_⟩
    have et : ys.take (i + 1) = ys.take i ++ [ys[i]] := by rw [List.take_add_one, ey]; rfl
    by_cases hin : c.2 ∈ l
    ·show if (if false = true then !inV (.str c.2) (l.map V.str) else inV (.str c.2) (l.map V.str)) = true then _ else _
     rw [if_neg (show ¬ (false = true) by decide), inV_strs, decide_eq_true hin, if_pos rfl]
     refine ⟨.str ys[i], rfl, _, e5, ?_, same_upd sm nD, ?_⟩
     ·rw [List.length_map]
      have h1 := List.length_filter_le kp (ys.take i)
      have h2 := List.length_take_le i ys
      exact lt _ (by omega)
     ·rw [upd_same, et, List.filter_append, List.map_append, List.filter_cons_of_pos ((hkp _).mpr ⟨c, mc, ec, hin⟩)]
      rfl
    ·show if (if false = true then !inV (.str c.2) (l.map V.str) else inV (.str c.2) (l.map V.str)) = true then _ else _
     rw [if_neg (show ¬ (false = true) by decide), inV_strs, decide_eq_false hin, if_neg (by decide)]
     refine ⟨sm, ?_⟩
     rw [et, List.filter_append, List.filter_cons_of_neg (fun z => by
      obtain ⟨c', mc', ec', h'⟩ := (hkp _).mp z
      have hc' := kdv_at knd mc'
      rw [ec', hc] at hc'
      have : c.2 = c'.2 := V.str.inj (Option.some.inj hc')
      exact hin (this ▸ h')), List.filter_nil, List.append_nil]
     exact e5
   ·rintro H5 ⟨sm, e5⟩
    rw [List.length_map, List.take_length] at e5
    obtain ⟨ns, hns⟩ : ∃ ns, ns = ys.filter kp := ⟨_, rfl⟩
    rw [← hns] at e5
    have nsm : ∀ n ∈ ns, ∃ c ∈ kd, c.1 = n ∧ c.2 ∈ l := fun n mn => by
     rw [hns] at mn
     exact (hkp n).mp (List.mem_filter.mp mn).2
    have nsN : ∀ n ∈ ns, IsName n := fun n mn => by
     obtain ⟨c, mc, rfl, _⟩ := nsm n mn
     exact hkn c mc
    have nsl : ns.length ≤ 12 := by
     rw [hns]
     exact Nat.le_trans (List.length_filter_le _ _) yl
    have full : (∀ k ∈ ks.map (·.nm), ∃ p ∈ kd, p.2 = k) → ns ≠ [] := fun cov e => by
     obtain ⟨k0, mk0⟩ := List.exists_mem_of_ne_nil l lne
     obtain ⟨c, mc, ec⟩ := cov k0 (lk k0 mk0).1
     have : c.1 ∈ ns := by
      rw [hns]
      exact List.mem_filter.mpr ⟨pm.mem_iff.mpr (List.mem_map_of_mem mc), (hkp _).mpr ⟨c, mc, rfl, ec ▸ mk0⟩⟩
     rw [e] at this
     cases this
    have W5 := W4.same sm
    have g05 : Gr b H H5 := fun x o n e => sm x o (s4 x o (g03 x o n e))
    have nDb := W4.neb nD
    refine ⟨.ref b, rfl, .ref Da, rfl, hS 1 (by decide), fun p2 np2 => ?_⟩
    have s6 := same_new (o := .lst [.non]) np2
    have e6 : (upd H5 p2 (.lst [.non])) p2 = some (.lst [.non]) := upd_same
    generalize upd H5 p2 (.lst [.non]) = H6 at s6 e6
    refine ⟨.ref Da, rfl, hS 0 (by decide), fun p3 np3 => ?_⟩
    have s7 := same_new (o := .lst []) np3
    have e7 : (upd H6 p3 (.lst [])) p3 = some (.lst []) := upd_same
    generalize upd H6 p3 (.lst []) = H7 at s7 e7
    have e57 := s7 _ _ (s6 _ _ e5)
    refine ⟨.list (ns.map PyData.str), .list [], .lst (SqL.of e57) (dp_strs ns), .lst (SqL.of e7) .nil, shaped_strs nsN, shaped_strs (l := []) (fun z m => by cases m), .inr ⟨_, rfl, ?_⟩⟩
    rw [eqv_nil]
    obtain ⟨j, ej, hj⟩ : ∃ j : Nat, (if (ns.length == 0) = true then (1 : Int) else 0) = (j : Int) ∧ ((j = 1 ∧ ns = []) ∨ (j = 0 ∧ ns ≠ [])) := by
     cases ns with
     | nil => exact ⟨1, rfl, .inl ⟨rfl, rfl⟩⟩
     | cons a r => exact ⟨0, rfl, .inr ⟨rfl, (fun z => nomatch z)⟩⟩
    rw [ej]
    have hj1 : j ≤ 1 := by omega
    refine ⟨p2, (j : Int), [.non], rfl, rfl, s7 _ _ e6, by omega, by omega, by show 1 * (j : Int).toNat ≤ sizeLine; rw [Int.toNat_natCast]; exact hS _ (by omega), fun p4 np4 => ?_⟩
    obtain ⟨ad, had, hadm⟩ : ∃ ad : List V, (List.replicate (j : Int).toNat [V.non]).flatten = ad ∧ ad.length ≤ 1 ∧ (ad = [] ↔ ns ≠ []) ∧ ∀ v ∈ ad, v = V.non := by
     rcases hj with ⟨rfl, e⟩ | ⟨rfl, e⟩
     ·exact ⟨[.non], rfl, Nat.le_refl _, ⟨(fun z => nomatch z), fun z => absurd e z⟩, fun v m => List.mem_singleton.mp m⟩
     ·exact ⟨[], rfl, by decide, ⟨fun _ => e, fun _ => rfl⟩, fun v m => nomatch m⟩
    rw [had]
    have s8 := same_new (o := .lst ad) np4
    have e8 : (upd H7 p4 (.lst ad)) p4 = some (.lst ad) := upd_same
    generalize upd H7 p4 (.lst ad) = H8 at s8 e8
    have s58 := (s6.trans s7).trans s8
    refine ⟨Da, p4, _, _, rfl, rfl, s58 _ _ e5, e8, hS _ (by rw [List.length_map]; have := hadm.1; omega), fun p9 np9 => ?_⟩
    have s9 := s58.trans (same_new (o := .lst (ns.map V.str ++ ad)) np9)
    have e9 : (upd H8 p9 (.lst (ns.map V.str ++ ad))) p9 = some (.lst (ns.map V.str ++ ad)) := upd_same
    generalize upd H8 p9 (.lst (ns.map V.str ++ ad)) = H9 at s9 e9
    have W9 := W5.same s9
    have np9b : p9 ≠ b := (W5.same s58).neb np9
    refine ⟨b, r, p9, _, rfl, W9, e9, np9b, ?_, by rw [List.length_append, List.length_map]; have := hadm.1; omega, fun v H10 mv g10 W10 => ?_⟩
    ·rw [List.length_append, List.length_map]
     rcases Classical.em (ns = []) with e | e
     ·have : ad ≠ [] := fun z => hadm.2.1.mp z e
      have := List.length_pos_iff.mpr this
      omega
     ·have := List.length_pos_iff.mpr e
      omega
    ·have gt : Gr b H H10 := fun x o n e => g10 x o n (s9 x o (g05 x o n e))
     rcases List.mem_append.mp mv with mv | mv
     ·obtain ⟨n, mn, rfl⟩ := List.mem_map.mp mv
      obtain ⟨c, mc, rfl, hc⟩ := nsm n mn
      have nn := hkn c mc
      exact k (.str c.1) (.str c.1) H10 gt W10 (.txt m nn.tx (Nat.le_trans nn.len8 (by decide))) (hvo _ (.thg nnum ntxt mc (lk _ hc).2)) fun _ _ => hcl _ (by intro z; cases z) (by intro z; cases z)
     ·obtain rfl := hadm.2.2 v mv
      refine k .non .none H10 gt W10 (.non m) (.non s) fun _ cov => ?_
      exact absurd rfl (hadm.2.1.mpr (full cov) ▸ (List.ne_nil_of_mem mv))
end
end NW
namespace NW
open PySem PySem.Spec PyProof.Rows L2
open TL (tl)
open StX (pa_star)
abbrev s_Lthings : Stmt := topS 70
abbrev N_Lthings : List Str := ["_law_box_here", "_law_schema_here", "_law_bad", "_law_kinds", "_law_words_here", "_law_given", "_law_own", "_law_k", "_law_things_here", "_law_thing", "_law_table", "_law_fields", "_law_field", "_law_kind_here"]
theorem sc_Lthings : FnScope N_Lthings ["_law_box_here", "_law_schema_here", "_law_bad"] (defScope s_Lthings) := ⟨rfl, rfl, rfl, by decide +kernel, rfl, by decide +kernel, by decide +kernel⟩
theorem FdsOf.at {ks : List KRow} {fs : List FRow} {us : List URow} {root z : Str} {fds : List Fld} (ok : SchOk ks fs us root) (h : FdsOf ks fs z fds) : fds = fdsAt ks fs z := by
 have h2 := fds_ex (ks := ks) (fs := fs) (z := z)
 rcases h with ⟨k, mk, e, rfl⟩ | ⟨nk, f, mf, e, rfl⟩ | ⟨nk, nf, rfl⟩
 ·subst e
  exact (fdsAt_kind ok mk).symm
 ·rcases h2 with ⟨k, mk, e2, _⟩ | ⟨_, f', mf', e2, e3⟩ | ⟨_, nf, _⟩
  ·exact absurd (List.mem_map.mpr ⟨k, mk, e2⟩) nk
  ·rw [e3]
   have h1 := find_is (f := fun f : FRow => f.nm) ok.ndf mf
   have h2 := find_is (f := fun f : FRow => f.nm) ok.ndf mf'
   rw [e] at h1
   rw [e2, h1] at h2
   rw [Option.some.inj h2]
  ·exact absurd (List.mem_map.mpr ⟨f, mf, e⟩) nf
 ·rcases h2 with ⟨k, mk, e2, _⟩ | ⟨_, f', mf', e2, e3⟩ | ⟨_, _, e⟩
  ·exact absurd (List.mem_map.mpr ⟨k, mk, e2⟩) nk
  ·exact absurd (List.mem_map.mpr ⟨f', mf', e2⟩) nf
  ·exact e.symm
theorem nd_inj {α : Type} {f : α → Str} {l : List α} (nd : (l.map f).Nodup) {a b : α} (ma : a ∈ l) (mb : b ∈ l) (e : f a = f b) : a = b := by
 have h1 := find_is (f := f) nd ma
 have h2 := find_is (f := f) nd mb
 rw [e] at h1
 rw [h1] at h2
 exact Option.some.inj h2
theorem zip_fst {α β : Type} : ∀ (a : List α) (b : List β), b.length ≤ a.length → (a.zip b).map Prod.fst = a.take b.length
 | [], [], _ => rfl
 | x :: a, [], _ => rfl
 | x :: a, y :: b, h => by
  rw [List.zip_cons_cons, List.map_cons, zip_fst a b (by simpa using h)]
  rfl
theorem take_newE {α : Type} {l : List α} (nd : l.Nodup) {i : Nat} {x : α} (e : l[i]? = some x) : x ∉ l.take i := fun m => by
 obtain ⟨j, hj, ej⟩ := List.mem_take_iff_getElem.mp m
 have hi := (List.getElem?_eq_some_iff.mp e).1
 have : l[j]? = l[i]? := by rw [e, List.getElem?_eq_getElem (by omega), ej]
 have := (List.getElem?_inj (by omega) nd).mp this
 omega
def Lt (b : Addr) (H H' : Hp) : Prop := ∀ a o, a ≠ b → (∀ kvs, o ≠ .dK kvs) → H a = some o → H' a = some o
theorem Gr.lt {b : Addr} {H H' : Hp} (g : Gr b H H') : Lt b H H' := fun a o n _ e => g a o n e
theorem Lt.put {b D : Addr} {H : Hp} {kvs : List (Key × V)} {o : HO} (e : H D = some (.dK kvs)) : Lt b H (upd H D o) := fun a u _ nk h => by rw [upd_ne (ne_of h e fun z => nk _ z)]; exact h
theorem Box.ntb {b r x : Addr} {H : Hp} {xs : List V} (W : Box H b r) (e : H x = some (.tup xs)) : x ≠ b := by
 obtain ⟨ys, eb⟩ := W.lst
 exact ne_of e eb (by intro z; cases z)
theorem VA.ltB {H H4 H5 : Hp} {b r : Addr} (W : Box H b r) (g : Lt b H4 H5) {n : Nat} {v : V} {d : PyData} (h : VA (nw H H4) n v d) : VA (nw H H5) n v d := by
 induction h with
 | non n => exact .non n
 | fail n e =>
  refine .fail n ?_
  rcases nw_some e with ⟨h0, e'⟩ | ⟨ys, h0, e'⟩
  ·rw [nw_new h0]
   exact g _ _ (W.neb h0) (fun _ z => nomatch z) e'
  ·rw [nw_tup h0, e']
 | num n i => exact .num n i
 | txt n h l => exact .txt n h l
 | lst n e hl hm _ ih =>
  refine .lst n ?_ hl hm ih
  rcases nw_some e with ⟨h0, e'⟩ | ⟨ys, h0, e'⟩
  ·rw [nw_new h0]
   exact g _ _ (W.neb h0) (fun _ z => nomatch z) e'
  ·cases e'
theorem VA.fromB {H H3 H4 : Hp} {b r : Addr} (W3 : Box H3 b r) (g : Gr b H H3) (g4 : Gr b H3 H4) {n : Nat} {v : V} {d : PyData} (h : VA (nw H3 H4) n v d) : VA (nw H H4) n v d := by
 refine h.same (nw_in (fun a h => g.free (W3.neb h) h) (fun a xs h => ?_) (fun a xs h => g4.tkB W3 _ _ h))
 cases h4 : H a with
 | none => exact .inl rfl
 | some o => exact .inr ((g _ _ (W3.ntb h) h4).symm.trans h)
structure TGe (H H' : Hp) (tt : Addr) (ks : List KRow) (fs : List FRow) (us : List URow) (kd0 : List (Str × Str)) (bad : Nat) (x : TRow) : Prop where
 t : H' x.t = some (.tup [.str x.kd, .ref x.da])
 d : H' x.da = some (.dK (vkv x.vs))
 new : H x.da = none
 ne : x.da ≠ tt
 v : ∀ f ∈ x.vs, VA (nw H H') 4 f.2.1 f.2.2
 kd : x.kd ∈ ks.map (·.nm)
 pm : (x.vs.map (·.1)).Perm ((fdsAt ks fs x.kd).map (·.1))
 ok : ∀ f ∈ x.vs, ∀ fl ∈ fdsAt ks fs x.kd, fl.1 = f.1 → VOk kd0 ks us fl.2.2 f.2.2 ∧ (bad = 0 → (∀ k ∈ ks.map (·.nm), ∃ p ∈ kd0, p.2 = k) → Cln fl.2.2 f.2.2)
theorem TGe.gr {H H1 H2 : Hp} {b r tt : Addr} {ks : List KRow} {fs : List FRow} {us : List URow} {kd0 : List (Str × Str)} {bad : Nat} {x : TRow} (W : Box H b r) (W1 : Box H1 b r) (g : Gr b H1 H2) (h : TGe H H1 tt ks fs us kd0 bad x) : TGe H H2 tt ks fs us kd0 bad x :=
 ⟨g.tkB W1 _ _ h.t, g.dkB W1 h.d, h.new, h.ne, fun f m => (h.v f m).ltB W g.lt, h.kd, h.pm, h.ok⟩
theorem TGe.put {H H1 : Hp} {b r tt : Addr} {ks : List KRow} {fs : List FRow} {us : List URow} {kd0 : List (Str × Str)} {bad : Nat} {x : TRow} {kvs : List (Key × V)} {o : HO} (W : Box H b r) (e : H1 tt = some (.dK kvs)) (h : TGe H H1 tt ks fs us kd0 bad x) : TGe H (upd H1 tt o) tt ks fs us kd0 bad x := by
 refine ⟨?_, by rw [upd_ne h.ne]; exact h.d, h.new, h.ne, fun f m => (h.v f m).ltB W (Lt.put e), h.kd, h.pm, h.ok⟩
 rw [upd_ne (fun z => by have := h.t; rw [z, e] at this; cases this)]
 exact h.t
section
variable {P : Program} {w : World} {K : PySem.W.Frag} {mg : Str → Option Value} {base : Heap}
def spLthings : Sp := fun vs H Q _ => ∃ (b r q kt ft ut : Addr) (bad : Nat) (ks : List KRow) (fs : List FRow) (us : List URow) (root : Str),
 vs = [.ref b, .ref q, .int (bad : Int)] ∧ Box H b r ∧ SchT H q kt ft ut ks fs us root ∧ bad ≤ 1000 ∧
 ∀ (p tt : Addr) (ths : List TRow) (first : Str) H', H' p = some (.tup [.ref tt, .str first]) → H' tt = some (.dK (thkv ths)) → H tt = none → (∀ x ∈ ths, TGe H H' tt ks fs us (kdl ths) bad x) → StoOk ks fs us root ths first → ths.length ≤ 9 → (bad = 0 → ∀ k ∈ ks.map (·.nm), ∃ p ∈ kdl ths, p.2 = k) → Gr b H H' → Box H' b r → H p = none → Q (.ref p) H'
theorem ok_Lthings {f f1 f2 f3 f4 : Addr} {fd fd1 fd2 fd3 fd4 : FuncData} (D : Df K mg "_law_things" s_Lthings f fd ["_law_box_here", "_law_schema_here", "_law_bad"]) (D_Ldraw : Df K mg "_law_draw" s_Ldraw f1 fd1 ["_law_box_here", "_law_many"])
  (D_Lwords : Df K mg "_law_words" s_Lwords f2 fd2 ["_law_box_here", "_law_many"]) (D_Lpick : Df K mg "_law_pick" s_Lpick f3 fd3 ["_law_box_here", "_law_row"])
  (D_Lvalue : Df K mg "_law_value" s_Lvalue f4 fd4 ["_law_box_here", "_law_schema_here", "_law_own", "_law_shape_here", "_law_bad"]) (G_Lvalue : FnOk P w K mg base CX0 7 f4 fd4 ["_law_box_here", "_law_schema_here", "_law_own", "_law_shape_here", "_law_bad"] (spLvalE 5)) (T : Nms mg) : FnOk P w K mg base CX0 8 f fd ["_law_box_here", "_law_schema_here", "_law_bad"] spLthings := by
 have G_Ldraw : FnOk P w K mg base CX0 1 f1 fd1 ["_law_box_here", "_law_many"] spLdraw := ok_Ldraw D_Ldraw T
 have G_Lwords := ok_Lwords (P := P) (w := w) (base := base) D_Lwords D_Ldraw T
 have G_Lpick := ok_LpickV (P := P) (w := w) (base := base) D_Lpick D_Ldraw T
 refine D.F.ok sc_Lthings (fun vs H Q E h => ?_) (fun cdv A outer sh H vs Q E hr h => ?_)
 ·obtain ⟨b, r, q, kt, ft, ut, bad, ks, fs, us, root, rfl, _⟩ := h
  rfl
 ·obtain ⟨b, r, q, kt, ft, ut, bad, ks, fs, us, root, rfl, W, sch, hbad, k⟩ := h
  have hu := hu_of hr
  have lt : ∀ n : Nat, n ≤ 1000 → n < sizeLine := fun n h => Nat.lt_of_le_of_lt h (by decide)
  have hS : ∀ n : Nat, n ≤ 1000 → n ≤ sizeLine := fun n h => Nat.le_trans h (by decide)
  have ok : SchOk ks fs us root := sch.2.2
  have k6 := ok.k1
  refine ⟨_, (pss_cons (ps_set (i := 3) sc_Lthings.nd rfl (.inr rfl) (pe_callB (call_sortedD rfl) (by rfl) T.n_sorted (by decide +kernel) (pa_cons (pe_ix ix_tup (pv 1) pe_int (fun _ _ => rfl)) pa_nil)))
   (pss_cons (ps_set (i := 4) sc_Lthings.nd rfl (.inl rfl) (pe_call G_Lwords (hr.mono (by decide)) (by rfl) D_Lwords.g D_Lwords.F.kp D_Lwords.b .nil pass0 (pa_cons (pv 0) (pa_cons pe_int pa_nil))))
   (pss_cons (ps_set (i := 5) sc_Lthings.nd rfl (.inl rfl) (pe_lst (pa_cons (pe_ix ix_tup (pv 1) pe_int (fun _ _ => rfl)) pa_nil)))
   (pss_cons (ps_mono (ps_if (PW.pt (pw_or (pt_cmpR op_eq (pv 2) pe_int (nomark _)) (pw_or1 (pt_cmpR op_eq (pe_call G_Ldraw (hr.mono (by decide)) (by rfl) D_Ldraw.g D_Ldraw.F.kp D_Ldraw.b .nil pass0 (pa_cons (pv 0) (pa_cons pe_int pa_nil))) pe_int (nomark _)))))
    (pss_one (ps_set (i := 5) sc_Lthings.nd rfl (.inl rfl) (pe_op op_cat (pv 5) (pe_lc (own := [("_law_kind_here", 13)]) (g := (gName 13)) rfl sc_Lthings.nd (pi_list (pv 3)) (blkOk_by (own := [("_law_kind_here", 13)]) (N := N_Lthings) (sc := defScope s_Lthings) (by decide +kernel)) (fun _ _ _ _ _ => (pg_name (i := 13) sc_Lthings.nd rfl (.inl rfl))) (fun _ _ _ _ _ => pts_one (pt_cmpR op_ne (pv 13) (pe_ix (ix_tupK K) (pv 1) pe_int (fun _ _ => rfl)) (nomark _))) (fun _ _ _ _ _ => (pv 13))))))
    pss_nil))
   (pss_cons (ps_set (i := 5) sc_Lthings.nd rfl (.inl rfl) (pe_op op_cat (pv 5) (pe_lc (own := [("_law_k", 7)]) (g := (gName 7)) (tt := tYes) rfl sc_Lthings.nd (pi_range1 (by rfl) T.n_range (pa_cons (pe_call G_Ldraw (hr.mono (by decide)) (by rfl) D_Ldraw.g D_Ldraw.F.kp D_Ldraw.b .nil pass0 (pa_cons (pv 0) (pa_cons pe_int pa_nil))) pa_nil)) (blkOk_by (own := [("_law_k", 7)]) (N := N_Lthings) (sc := defScope s_Lthings) (by decide +kernel)) (fun _ _ _ _ _ => (pg_name (i := 7) sc_Lthings.nd rfl (.inl rfl))) (fun _ _ _ _ _ => pts_nil) (fun _ _ _ _ _ => (pe_call G_Lpick (hr.mono (by decide)) (by rfl) D_Lpick.g D_Lpick.F.kp D_Lpick.b .nil pass0 (pa_cons (pv 0) (pa_cons (pv 3) pa_nil)))))))
   (pss_cons (ps_set (i := 6) sc_Lthings.nd rfl (.inl rfl) pe_dnewK)
   (pss_cons (ps_for PassesOwn.never rfl (pi_range1 (by rfl) T.n_range (pa_cons (pe_callB call_len_seq (by rfl) T.n_len (by decide +kernel) (pa_cons (pv 5) pa_nil)) pa_nil)) (pg_name (i := 7) sc_Lthings.nd rfl (.inl rfl))
    (pss_one (ps_dput hu (pv 6) (pe_ix ix_list (pv 4) (pv 7) (fun _ _ => rfl)) (pe_ix ix_list (pv 5) (pv 7) (fun _ _ => rfl)) rfl)))
   (pss_cons (ps_set (i := 8) sc_Lthings.nd rfl (.inl rfl) pe_dnewK)
   (pss_cons (ps_for PassesOwn.never rfl (pi_list (pe_slice sl_list (pv 4) po_none (po_some (pe_callB call_len_seq (by rfl) T.n_len (by decide +kernel) (pa_cons (pv 5) pa_nil))))) (pg_name (i := 9) sc_Lthings.nd rfl (.inl rfl))
    (pss_cons (ps_set (i := 10) sc_Lthings.nd rfl (.inl rfl) (pe_ix ix_tup (pe_dget hu (pe_ix ix_tup (pv 1) pe_int (fun _ _ => rfl)) (pe_dget hu (pv 6) (pv 9) (fun _ _ => rfl)) (fun _ _ => rfl)) pe_int (fun _ _ => rfl)))
    (pss_cons (ps_set (i := 11) sc_Lthings.nd rfl (.inl rfl) pe_dnewK)
    (pss_cons (ps_for PassesOwn.never rfl (pi_list (pe_callB (call_sortedD rfl) (by rfl) T.n_sorted (by decide +kernel) (pa_cons (pv 10) pa_nil))) (pg_name (i := 12) sc_Lthings.nd rfl (.inl rfl))
     (pss_one (ps_dput hu (pv 11) (pv 12) (pe_call G_Lvalue (hr.mono (by decide)) (by rfl) D_Lvalue.g D_Lvalue.F.kp D_Lvalue.b .nil pass0 (pa_cons (pv 0) (pa_cons (pv 1) (pa_cons (pv 6) (pa_cons (pe_dget hu (pv 10) (pv 12) (fun _ _ => rfl)) (pa_cons (pv 2) pa_nil)))))) rfl)))
    (pss_one (ps_dput hu (pv 8) (pv 9) (pe_tup (pa_cons (pe_dget hu (pv 6) (pv 9) (fun _ _ => rfl)) (pa_cons (pv 11) pa_nil))) rfl))))))
   (pss_one (ps_ret (pe_tup (pa_cons (pv 8) (pa_cons (pe_ix ix_list (pv 4) pe_int (fun _ _ => rfl)) pa_nil)))))))))))))), ?_⟩
  refine ⟨.ref q, rfl, q, _, 0, _, rfl, rfl, .inl (.inl sch.1), atI_nat (j := 0) rfl, kt, kkv ks, ks.map (·.nm), rfl, .inl sch.2.1.kd, (by unfold kkv; rw [List.map_map, List.map_map]; rfl), by rw [List.length_map]; omega, fun kl pk pm so npk => ?_⟩
  have npkb := W.neb npk
  have s1 := same_new (o := .lst (kl.map V.str)) npk
  have e1 : (upd H pk (.lst (kl.map V.str))) pk = some (.lst (kl.map V.str)) := upd_same
  generalize upd H pk (.lst (kl.map V.str)) = H1 at s1 e1
  have hkl : kl.length = ks.length := by rw [pm.length_eq, List.length_map]
  have W1 := W.same s1
  refine ⟨.ref b, rfl, b, r, 9, rfl, W1, by decide, fun ws pn H2 lw hw wnd g2 W2 npn epn => ?_⟩
  have npnb := W1.neb npn
  have epk2 := g2 _ _ npkb e1
  have g02 : Gr b H H2 := fun x o n e => g2 x o n (s1 x o e)
  refine ⟨.ref q, rfl, q, _, 3, _, rfl, rfl, .inl (.inl (g02.tkB W _ _ sch.1)), atI_nat (j := 3) rfl, hS 1 (by decide), fun pg npg => ?_⟩
  have s3 := same_new (o := .lst [.str root]) npg
  have e3 : (upd H2 pg (.lst [.str root])) pg = some (.lst ([root].map V.str)) := upd_same
  generalize upd H2 pg (.lst [.str root]) = H3 at s3 e3
  have W3 := W2.same s3
  have g03 : Gr b H H3 := fun x o n e => s3 x o (g02 x o n e)
  have npgb := W2.neb npg
  refine ⟨fun σ' H' => ∃ (pg' : Addr) (gv : List Str) (y7 y13 : Option V), σ' = [some (.ref b), some (.ref q), some (.int (bad : Int)), some (.ref pk), some (.ref pn), some (.ref pg'), none, y7, none, none, none, none, none, y13] ∧ Gr b H H' ∧ Box H' b r ∧ H' pk = some (.lst (kl.map V.str)) ∧ H' pn = some (.lst (ws.map V.str)) ∧ H' pg' = some (.lst (gv.map V.str)) ∧ pg' ≠ b ∧ gv.head? = some root ∧ (∀ z ∈ gv, z ∈ ks.map (·.nm)) ∧ gv.length ≤ 6 ∧ (bad = 0 → ∀ z ∈ ks.map (·.nm), z ∈ gv), ?_, ?_⟩
  ·by_cases hb0 : bad = 0
   ·refine ⟨.int (bad : Int), rfl, rfl, true, blT (by rw [hb0]; rfl), iteT ?_⟩
    have epk4 : H3 pk = some (.lst (kl.map V.str)) := (Gr.refl (b := b) (H := H3)) _ _ npkb (s3 _ _ epk2)
    have epn4 : H3 pn = some (.lst (ws.map V.str)) := (Gr.refl (b := b) (H := H3)) _ _ npnb (s3 _ _ epn)
    have epg4 : H3 pg = some (.lst ([root].map V.str)) := (Gr.refl (b := b) (H := H3)) _ _ npgb e3
    have g04 : Gr b H H3 := g03.trans (Gr.refl (b := b) (H := H3))
    have sch4 := sch.gr W g04
    refine ⟨.ref pg, rfl, .ref pk, rfl, pk, rfl, ⟨_, SqL.of epk4⟩, fun Da nD => ?_⟩
    refine lc_it (walk_list (xs := kl.map V.str)) (fun i H' => Same H3 H' ∧ H' Da = some (.lst (((kl.take i).filter fun z => !decide (z = root)).map V.str))) ⟨same_new nD, upd_same⟩ (fun i H' _ p => SqL.of (p.1 _ _ epk4)) ?_ ?_
    ·rintro i x H5 H6 hi ⟨sm, e5⟩ ⟨rfl, ex⟩
     rw [List.length_map] at hi
     have ey : kl[i]? = some kl[i] := List.getElem?_eq_getElem hi
     rw [List.getElem?_map, ey] at ex
     cases ex
     have et : kl.take (i + 1) = kl.take i ++ [kl[i]] := by rw [List.take_add_one, ey]; rfl
     refine ⟨rfl, .str kl[i], rfl, .ref q, rfl, q, _, 3, _, rfl, rfl, .inl (.inl (sm _ _ sch4.1)), atI_nat (j := 3) rfl, rfl, !decide (kl[i] = root), (by
      show V.bl (!decide (V.str kl[i] = V.str root)) = _
      by_cases e : kl[i] = root
      ·rw [e, decide_eq_true rfl, decide_eq_true rfl]
      ·rw [decide_eq_false e, decide_eq_false fun z => e (V.str.inj z)]), ?_⟩
     by_cases e : kl[i] = root
     ·rw [decide_eq_true e]
      refine iteF ⟨sm, ?_⟩
      rw [et, List.filter_append, List.filter_cons_of_neg (by simp [e]), List.filter_nil, List.append_nil]
      exact e5
     ·rw [decide_eq_false e]
      refine iteT ⟨.str kl[i], rfl, _, e5, ?_, same_upd sm nD, ?_⟩
      ·rw [List.length_map]
       have h1 := List.length_filter_le (fun z => !decide (z = root)) (kl.take i)
       have h2 := List.length_take_le i kl
       exact lt _ (by omega)
      ·rw [upd_same, et, List.filter_append, List.map_append, List.filter_cons_of_pos (by simp [e])]
       rfl
    ·rintro H5 ⟨sm, e5⟩
     rw [List.length_map, List.take_length] at e5
     have W5 := W3.same sm
     have rtk : root ∈ kl := pm.mem_iff.mpr ok.rt
     have fl : (kl.filter fun z => !decide (z = root)).length < kl.length := List.length_filter_lt_length_iff_exists.mpr ⟨root, rtk, by simp⟩
     refine ⟨pg, Da, _, _, rfl, rfl, sm _ _ epg4, e5, hS _ (by rw [List.length_map, List.length_map]; show 1 + _ ≤ 1000; omega), fun p2 np2 => ?_⟩
     have s6 := sm.trans (same_new (o := .lst ([root].map V.str ++ (kl.filter fun z => !decide (z = root)).map V.str)) np2)
     have e6 : (upd H5 p2 (.lst ([root].map V.str ++ (kl.filter fun z => !decide (z = root)).map V.str))) p2 = some (.lst ((root :: kl.filter fun z => !decide (z = root)).map V.str)) := upd_same
     generalize upd H5 p2 (.lst ([root].map V.str ++ (kl.filter fun z => !decide (z = root)).map V.str)) = H6 at s6 e6
     refine ⟨p2, root :: kl.filter fun z => !decide (z = root), _, _, rfl, fun x o n e => s6 x o (g04 x o n e), W3.same s6, s6 _ _ epk4, s6 _ _ epn4, e6, W5.neb np2, rfl, fun z mz => ?_, by rw [List.length_cons]; omega, fun _ z mz => ?_⟩
     ·rcases List.mem_cons.mp mz with rfl | mz
      ·exact ok.rt
      ·exact pm.mem_iff.mp (List.mem_filter.mp mz).1
     ·by_cases e : z = root
      ·rw [e]
       exact List.mem_cons_self
      ·exact List.mem_cons_of_mem _ (List.mem_filter.mpr ⟨pm.mem_iff.mpr mz, by simp [e]⟩)
   ·refine ⟨.int (bad : Int), rfl, rfl, false, blF (fun e => hb0 (by have := V.int.inj e; omega)), iteF ⟨.ref b, rfl, b, r, 2, rfl, W3, by decide, by decide, fun d1 H4 d10 d11 g4 W4 => ⟨rfl, _, rfl, ite2 (fun e => ?_) (fun e => ?_)⟩⟩⟩
    ·have epk4 : H4 pk = some (.lst (kl.map V.str)) := g4 _ _ npkb (s3 _ _ epk2)
     have epn4 : H4 pn = some (.lst (ws.map V.str)) := g4 _ _ npnb (s3 _ _ epn)
     have epg4 : H4 pg = some (.lst ([root].map V.str)) := g4 _ _ npgb e3
     have g04 : Gr b H H4 := g03.trans g4
     have sch4 := sch.gr W g04
     refine ⟨.ref pg, rfl, .ref pk, rfl, pk, rfl, ⟨_, SqL.of epk4⟩, fun Da nD => ?_⟩
     refine lc_it (walk_list (xs := kl.map V.str)) (fun i H' => Same H4 H' ∧ H' Da = some (.lst (((kl.take i).filter fun z => !decide (z = root)).map V.str))) ⟨same_new nD, upd_same⟩ (fun i H' _ p => SqL.of (p.1 _ _ epk4)) ?_ ?_
     ·rintro i x H5 H6 hi ⟨sm, e5⟩ ⟨rfl, ex⟩
      rw [List.length_map] at hi
      have ey : kl[i]? = some kl[i] := List.getElem?_eq_getElem hi
      rw [List.getElem?_map, ey] at ex
      cases ex
      have et : kl.take (i + 1) = kl.take i ++ [kl[i]] := by rw [List.take_add_one, ey]; rfl
      refine ⟨rfl, .str kl[i], rfl, .ref q, rfl, q, _, 3, _, rfl, rfl, .inl (.inl (sm _ _ sch4.1)), atI_nat (j := 3) rfl, rfl, !decide (kl[i] = root), (by
       show V.bl (!decide (V.str kl[i] = V.str root)) = _
       by_cases e : kl[i] = root
       ·rw [e, decide_eq_true rfl, decide_eq_true rfl]
       ·rw [decide_eq_false e, decide_eq_false fun z => e (V.str.inj z)]), ?_⟩
      by_cases e : kl[i] = root
      ·rw [decide_eq_true e]
       refine iteF ⟨sm, ?_⟩
       rw [et, List.filter_append, List.filter_cons_of_neg (by simp [e]), List.filter_nil, List.append_nil]
       exact e5
      ·rw [decide_eq_false e]
       refine iteT ⟨.str kl[i], rfl, _, e5, ?_, same_upd sm nD, ?_⟩
       ·rw [List.length_map]
        have h1 := List.length_filter_le (fun z => !decide (z = root)) (kl.take i)
        have h2 := List.length_take_le i kl
        exact lt _ (by omega)
       ·rw [upd_same, et, List.filter_append, List.map_append, List.filter_cons_of_pos (by simp [e])]
        rfl
     ·rintro H5 ⟨sm, e5⟩
      rw [List.length_map, List.take_length] at e5
      have W5 := W4.same sm
      have rtk : root ∈ kl := pm.mem_iff.mpr ok.rt
      have fl : (kl.filter fun z => !decide (z = root)).length < kl.length := List.length_filter_lt_length_iff_exists.mpr ⟨root, rtk, by simp⟩
      refine ⟨pg, Da, _, _, rfl, rfl, sm _ _ epg4, e5, hS _ (by rw [List.length_map, List.length_map]; show 1 + _ ≤ 1000; omega), fun p2 np2 => ?_⟩
      have s6 := sm.trans (same_new (o := .lst ([root].map V.str ++ (kl.filter fun z => !decide (z = root)).map V.str)) np2)
      have e6 : (upd H5 p2 (.lst ([root].map V.str ++ (kl.filter fun z => !decide (z = root)).map V.str))) p2 = some (.lst ((root :: kl.filter fun z => !decide (z = root)).map V.str)) := upd_same
      generalize upd H5 p2 (.lst ([root].map V.str ++ (kl.filter fun z => !decide (z = root)).map V.str)) = H6 at s6 e6
      refine ⟨p2, root :: kl.filter fun z => !decide (z = root), _, _, rfl, fun x o n e => s6 x o (g04 x o n e), W4.same s6, s6 _ _ epk4, s6 _ _ epn4, e6, W5.neb np2, rfl, fun z mz => ?_, by rw [List.length_cons]; omega, fun _ z mz => ?_⟩
      ·rcases List.mem_cons.mp mz with rfl | mz
       ·exact ok.rt
       ·exact pm.mem_iff.mp (List.mem_filter.mp mz).1
      ·by_cases e : z = root
       ·rw [e]
        exact List.mem_cons_self
       ·exact List.mem_cons_of_mem _ (List.mem_filter.mpr ⟨pm.mem_iff.mpr mz, by simp [e]⟩)
    ·exact ⟨pg, [root], _, _, rfl, g03.trans g4, W4, g4 _ _ npkb (s3 _ _ epk2), g4 _ _ npnb (s3 _ _ epn), g4 _ _ npgb e3, npgb, rfl, (fun z m => by rw [List.mem_singleton.mp m]; exact ok.rt), (show 1 ≤ 6 by decide), fun z => absurd z hb0⟩
  rintro _ H4 ⟨pg4, gv4, y7, y13, rfl, g04, W4, epk4, epn4, epg4, npg4, hd4, gk4, gl4, cov4⟩
  have g4 := g04
  refine ⟨.ref pg4, rfl, .ref b, rfl, b, r, 4, rfl, W4, by decide, by decide, fun d H5 d0 d1 g5 W5 => ?_⟩
  obtain ⟨d, rfl⟩ := Int.eq_ofNat_of_zero_le d0
  have g05 := g04.trans g5
  have epk5 := g5 _ _ npkb epk4
  have epn5 := g5 _ _ npnb epn4
  have epg5 := g5 _ _ npg4 epg4
  refine ⟨d, rfl, by omega, by omega, fun Da nD => ?_⟩
  have nDb := W5.neb nD
  have nDr := W5.ner nD
  refine lc_range (lo := 0) (n := d) (fun i H' => ∃ ms : List Str, H' Da = some (.lst (ms.map V.str)) ∧ ms.length = i ∧ (∀ z ∈ ms, z ∈ ks.map (·.nm)) ∧ Gr b H5 H' ∧ Box H' b r) ⟨[], upd_same, rfl, (fun z m => nomatch m), Gr.new nD, W5.new nD⟩ ?_ ?_
  ·rintro i H6 hi ⟨ms, e6, hms, mk6, g6, W6⟩
   refine ⟨rfl, lcT ⟨.ref b, rfl, .ref pk, rfl, b, r, pk, _, rfl, W6, g6 _ _ npkb epk5, npkb, by rw [List.length_map, hkl]; exact ok.k0, by rw [List.length_map]; omega, fun v H7 mv g7 W7 => ?_⟩⟩
   obtain ⟨z, mz, rfl⟩ := List.mem_map.mp mv
   refine ⟨_, g7 _ _ nDb e6, lt _ (by rw [List.length_map]; omega), ms ++ [z], by rw [upd_same, List.map_append]; rfl, by rw [List.length_append, hms]; rfl, fun y my => ?_, (g6.trans g7).upd nD, W7.upd nDb nDr⟩
   rcases List.mem_append.mp my with my | my
   ·exact mk6 y my
   ·rw [List.mem_singleton.mp my]
    exact pm.mem_iff.mp mz
  rintro H6 ⟨ms, e6, hms, mk6, g6, W6⟩
  refine ⟨pg4, Da, _, _, rfl, rfl, g6 _ _ npg4 epg5, e6, hS _ (by rw [List.length_map, List.length_map]; omega), fun p7 np7 => ?_⟩
  have np7b := W6.neb np7
  have s7 := same_new (o := .lst (gv4.map V.str ++ ms.map V.str)) np7
  have e7 : (upd H6 p7 (.lst (gv4.map V.str ++ ms.map V.str))) p7 = some (.lst ((gv4 ++ ms).map V.str)) := by rw [upd_same, List.map_append]
  generalize upd H6 p7 (.lst (gv4.map V.str ++ ms.map V.str)) = H7 at s7 e7
  have W7 := W6.same s7
  have g07 : Gr b H H7 := fun x o n e => s7 x o (g6 x o n (g05 x o n e))
  have epn7 := s7 _ _ (g6 _ _ npnb epn5)
  obtain ⟨gv, hgv⟩ : ∃ gv, gv = gv4 ++ ms := ⟨_, rfl⟩
  rw [← hgv] at e7
  have hd : gv.head? = some root := by
   rw [hgv]
   cases gv4 with
   | nil => cases hd4
   | cons x y => exact hd4
  have gk : ∀ z ∈ gv, z ∈ ks.map (·.nm) := fun z mz => by
   rw [hgv] at mz
   rcases List.mem_append.mp mz with mz | mz
   ·exact gk4 z mz
   ·exact mk6 z mz
  have gl : gv.length ≤ 9 := by rw [hgv, List.length_append, hms]; omega
  have g0 : 0 < gv.length := by
   cases gv with
   | nil => cases hd
   | cons x y => exact Nat.succ_pos _
  have cov : bad = 0 → ∀ z ∈ ks.map (·.nm), z ∈ gv := fun z y my => by
   rw [hgv]
   exact List.mem_append_left _ (cov4 z y my)
  clear hgv hd4 gk4 cov4 mk6 e6 epg5 epg4
  refine fun od nod => ?_
  have nodb := W7.neb nod
  have s8 := same_new (o := .dK []) nod
  have e8 : (upd H7 od (.dK [])) od = some (.dK (kdv [])) := upd_same
  generalize upd H7 od (.dK []) = H8 at s8 e8
  have W8 := W7.same s8
  have ep8 := s8 _ _ e7
  have epn8 := s8 _ _ epn7
  have g08 : Gr b H H8 := fun x o n e => s8 x o (g07 x o n e)
  have nod0 : H od = none := g07.free nodb nod
  have zl : (ws.zip gv).length = gv.length := by rw [List.length_zip]; omega
  refine ⟨.ref p7, rfl, p7, _, rfl, .inl (SqL.of ep8), (gv.length : Int), by rw [List.length_map], by omega, by omega, for_range (lo := 0) (n := gv.length) (fun i σ H' => ∃ y7 : Option V, σ = [some (.ref b), some (.ref q), some (.int (bad : Int)), some (.ref pk), some (.ref pn), some (.ref p7), some (.ref od), y7, none, none, none, none, none, y13] ∧ (∀ a o, a ≠ od → H8 a = some o → H' a = some o) ∧ H' od = some (.dK (kdv ((ws.zip gv).take i)))) ⟨_, rfl, (fun a o _ e => e), e8⟩ ?_ ?_⟩
  ·rintro i σ H9 hi ⟨y7', rfl, g9, e9⟩
   have ei : (0 + (i : Int)) = (i : Int) := by omega
   rw [ei]
   have hiw : i < ws.length := by omega
   have agv : atI (gv.map V.str) (i : Int) = some (.str gv[i]) := atI_nat (by rw [List.getElem?_map, List.getElem?_eq_getElem hi]; rfl)
   have aws : atI (ws.map V.str) (i : Int) = some (.str ws[i]) := atI_nat (by rw [List.getElem?_map, List.getElem?_eq_getElem hiw]; rfl)
   have ezi : (ws.zip gv)[i]? = some (ws[i], gv[i]) := by rw [List.getElem?_zip_eq_some]; exact ⟨List.getElem?_eq_getElem hiw, List.getElem?_eq_getElem hi⟩
   have np7o : p7 ≠ od := ne_of_none e7 nod
   have npno : pn ≠ od := ne_of_none epn7 nod
   have kln : (kdv ((ws.zip gv).take i)).length ≤ 20 := by
    unfold kdv
    rw [List.length_map, List.length_take]
    omega
   have hnew : (Sum.inr ws[i] : Key) ∉ (kdv ((ws.zip gv).take i)).map (·.1) := fun m => by
    unfold kdv at m
    rw [List.map_map] at m
    obtain ⟨z, mz, ez⟩ := List.mem_map.mp m
    have ez : z.1 = ws[i] := Sum.inr.inj ez
    have : z.1 ∈ ws.take i := by
     have h1 : ((ws.zip gv).take i).map Prod.fst = ws.take i := by
      rw [List.map_take, zip_fst ws gv (by omega), List.take_take, Nat.min_eq_left (by omega)]
     rw [← h1]
     exact List.mem_map_of_mem mz
    rw [ez] at this
    exact take_newE wnd (List.getElem?_eq_getElem hiw) this
   refine ⟨.ref p7, rfl, .int i, rfl, p7, _, i, .str gv[i], rfl, rfl, SqL.of (g9 _ _ np7o ep8), agv, .ref od, rfl, .ref pn, rfl, .int i, rfl, pn, _, i, .str ws[i], rfl, rfl, SqL.of (g9 _ _ npno epn8), aws, od, _, rfl, DPut.k (k := Sum.inr ws[i]) e9 (lt _ (by omega)), ?_⟩
   refine ⟨_, rfl, fun a o n e => by rw [upd_ne n]; exact g9 a o n e, ?_⟩
   rw [upd_same, putK_end hnew, List.take_add_one, ezi]
   unfold kdv
   rw [List.map_append]
   rfl
  rintro σ H9 ⟨y7', rfl, g9, e9⟩
  have ezz : (ws.zip gv).take gv.length = ws.zip gv := List.take_of_length_le (by omega)
  rw [ezz] at e9
  obtain ⟨kd, hkd⟩ : ∃ kd, kd = ws.zip gv := ⟨_, rfl⟩
  rw [← hkd] at e9
  have W9 : Box H9 b r := by
   obtain ⟨ns, i, g, z, c, w⟩ := W8
   exact ⟨ns, i, g, z, c, g9 _ _ nodb.symm w.at_, g9 _ _ (ne_of w.lst e8 (by intro z; cases z)) w.lst, w.ne, w.len, w.i0, w.z0, w.z1⟩
  have g09 : Gr b H H9 := fun a o n e => g9 a o (ne_of_none e nod0) (g08 a o n e)
  have ep9 := g9 _ _ (ne_of_none e7 nod) ep8
  have epn9 := g9 _ _ (ne_of_none epn7 nod) epn8
  have kdl9 : kd.length = gv.length := by rw [hkd]; exact zl
  have kdf : kd.map Prod.fst = ws.take gv.length := by rw [hkd]; exact zip_fst ws gv (by omega)
  have kds : kd.map Prod.snd = gv := by rw [hkd]; exact List.map_snd_zip (by omega)
  have knd : (kd.map (·.1)).Nodup := by
   show (kd.map Prod.fst).Nodup
   rw [kdf]
   exact wnd.sublist (List.take_sublist _ _)
  have kdn : ∀ c ∈ kd, IsName c.1 := fun c mc => by
   have : c.1 ∈ kd.map Prod.fst := List.mem_map_of_mem mc
   rw [kdf] at this
   exact (hw _ (List.mem_of_mem_take this)).1
  have kdk : ∀ c ∈ kd, c.2 ∈ ks.map (·.nm) := fun c mc => gk _ (by rw [← kds]; exact List.mem_map_of_mem mc)
  clear hkd ezz g9 e8 ep8 epn8
  refine fun tt ntt => ?_
  have nttb := W9.neb ntt
  have ntt0 : H tt = none := g09.free nttb ntt
  have s10 := same_new (o := .dK []) ntt
  have e10 : (upd H9 tt (.dK [])) tt = some (.dK (thkv [])) := upd_same
  generalize upd H9 tt (.dK []) = H10 at s10 e10
  have W10 := W9.same s10
  have g010 : Gr b H H10 := fun a o n e => s10 a o (g09 a o n e)
  have ep10 := s10 _ _ ep9
  have epn10 := s10 _ _ epn9
  have eod10 := s10 _ _ e9
  refine ⟨.ref pn, rfl, .ref p7, rfl, p7, _, rfl, .inl (SqL.of ep10), (gv.length : Int), by rw [List.length_map], pn, _, rfl, SqL.of epn10, fun ps nps => ?_⟩
  have ecut : (cutV (ws.map V.str) none (some (gv.length : Int))) = (kd.map (·.1)).map V.str := by
   show _ = (kd.map Prod.fst).map V.str
   rw [kdf, cut_to (by rw [List.length_map]; omega), List.map_take]
  have s11 := same_new (o := .lst (cutV (ws.map V.str) none (some (gv.length : Int)))) nps
  have e11 : (upd H10 ps (.lst (cutV (ws.map V.str) none (some (gv.length : Int))))) ps = some (.lst ((kd.map (·.1)).map V.str)) := by rw [upd_same, ecut]
  generalize upd H10 ps (.lst (cutV (ws.map V.str) none (some (gv.length : Int)))) = H11 at s11 e11
  have W11 := W10.same s11
  have npsb := W10.neb nps
  have e1011 := s11 _ _ e10
  have nod11 := s11 _ _ eod10
  have nodtt : od ≠ tt := ne_of_none e9 ntt
  have g011 : Gr b H H11 := fun a o n e => s11 a o (g010 a o n e)
  refine ⟨ps, rfl, ⟨_, SqL.of e11⟩, for_it (walk_list (xs := (kd.map (·.1)).map V.str)) (fun i σ H' => ∃ (y9 y10 y11 y12 : Option V) (ths : List TRow), σ = [some (.ref b), some (.ref q), some (.int (bad : Int)), some (.ref pk), some (.ref pn), some (.ref p7), some (.ref od), y7', some (.ref tt), y9, y10, y11, y12, y13] ∧ Gr b H H' ∧ Box H' b r ∧ H' od = some (.dK (kdv kd)) ∧ H' ps = some (.lst ((kd.map (·.1)).map V.str)) ∧ H' pn = some (.lst (ws.map V.str)) ∧ H' tt = some (.dK (thkv ths)) ∧ kdl ths = kd.take i ∧ ∀ x ∈ ths, TGe H H' tt ks fs us kd bad x) ⟨_, _, _, _, [], rfl, g011, W11, nod11, e11, s11 _ _ epn10, e1011, rfl, fun x m => nomatch m⟩ ?_ ?_ ?_⟩
  ·rintro i σ H' _ ⟨_, _, _, _, _, _, _, _, _, e, _⟩
   exact SqL.of e
  ·rintro i y σ H12' H12 hi ⟨y9, y10, y11, y12, ths, rfl, g12, W12, eo12, ep12, epn12, e12, hkd, hth⟩ ⟨rfl, ey⟩
   rw [List.length_map, List.length_map] at hi
   have ec : kd[i]? = some kd[i] := List.getElem?_eq_getElem hi
   rw [List.getElem?_map, List.getElem?_map, ec] at ey
   cases ey
   generalize hc : kd[i] = c at ec
   have mc : c ∈ kd := List.mem_of_getElem? ec
   have hcv := kdv_at knd mc
   obtain ⟨kr, mk, ek⟩ := List.mem_map.mp (kdk c mc)
   have sch12 := sch.gr W g12
   have ka := sch12.2.1.ka kr mk
   have hfd := ka.d
   have fok := ok.kd kr mk
   have efd : fdsAt ks fs c.2 = kr.fds := (FdsOf.at ok (show FdsOf ks fs c.2 kr.fds from .inl ⟨kr, mk, ek, rfl⟩)).symm
   refine ⟨.ref q, rfl, q, _, 0, _, rfl, rfl, .inl (.inl sch12.1), atI_nat (j := 0) rfl, .ref od, rfl, .str c.1, rfl, od, .str c.2, rfl, .inl ⟨kdv kd, .inr c.1, .inl eo12, rfl, hcv.symm⟩, kt, _, rfl, .inl ⟨kkv ks, .inr c.2, .inl sch12.2.1.kd, rfl, by rw [← ek]; exact (kkv_val ok.ndk mk).symm⟩, kr.t, _, 1, _, rfl, rfl, .inl (.inl ka.t), atI_nat (j := 1) rfl, ?_⟩
   refine fun fd nfd => ?_
   have nfdb := W12.neb nfd
   have nfd0 : H fd = none := g12.free nfdb nfd
   have nft : fd ≠ tt := (ne_of_none e12 nfd).symm
   have s13 := same_new (o := .dK []) nfd
   have e13 : (upd H12 fd (.dK [])) fd = some (.dK (vkv [])) := upd_same
   generalize upd H12 fd (.dK []) = H13 at s13 e13
   have f5 := fok.n1
   refine ⟨.ref kr.da, rfl, kr.da, fkv kr.fds, kr.fds.map (·.1), rfl, .inl (s13 _ _ hfd.at_), (by unfold fkv; rw [List.map_map, List.map_map]; rfl), by rw [List.length_map]; omega, fun fl pf pmf _ npf => ?_⟩
   have W13 := W12.same s13
   have npfb := W13.neb npf
   have npff : fd ≠ pf := ne_of_none e13 npf
   have s14 := same_new (o := .lst (fl.map V.str)) npf
   have e14 : (upd H13 pf (.lst (fl.map V.str))) pf = some (.lst (fl.map V.str)) := upd_same
   generalize upd H13 pf (.lst (fl.map V.str)) = H14 at s14 e14
   have W14 := W13.same s14
   have s1214 := s13.trans s14
   have flnd : fl.Nodup := pmf.nodup_iff.mpr fok.nd
   have fll : fl.length = kr.fds.length := by rw [pmf.length_eq, List.length_map]
   refine ⟨pf, rfl, ⟨_, SqL.of e14⟩, for_it (walk_list (xs := fl.map V.str)) (fun j σ H' => ∃ (y12 : Option V) (vs : List (Str × V × PyData)), σ = [some (.ref b), some (.ref q), some (.int (bad : Int)), some (.ref pk), some (.ref pn), some (.ref p7), some (.ref od), y7', some (.ref tt), some (.str c.1), some (.ref kr.da), some (.ref fd), y12, y13] ∧ H' fd = some (.dK (vkv vs)) ∧ H' pf = some (.lst (fl.map V.str)) ∧ vs.map (·.1) = fl.take j ∧ (∀ f ∈ vs, VA (nw H H') 4 f.2.1 f.2.2) ∧
    (∀ f ∈ vs, ∀ fl ∈ fdsAt ks fs c.2, fl.1 = f.1 → VOk kd ks us fl.2.2 f.2.2 ∧ (bad = 0 → (∀ k ∈ ks.map (·.nm), ∃ p ∈ kd, p.2 = k) → Cln fl.2.2 f.2.2)) ∧ Gr b H12 H' ∧ Box H' b r)
    ⟨_, [], rfl, s14 _ _ e13, e14, rfl, (fun f m => nomatch m), (fun f m => nomatch m), (fun a o _ e => s1214 a o e), W14⟩ ?_ ?_ ?_⟩
   ·rintro j σ H' _ ⟨_, _, _, _, e, _⟩
    exact SqL.of e
   ·rintro j y σ H15' H15 hj ⟨y12', vs, rfl, efd15, epf15, hvs, va, vok, g15, W15⟩ ⟨rfl, ey⟩
    rw [List.length_map] at hj
    rw [List.getElem?_map, List.getElem?_eq_getElem hj] at ey
    cases ey
    obtain ⟨f0, mf0, ef0⟩ := List.mem_map.mp (pmf.mem_iff.mp (List.getElem_mem hj))
    have mf0 : f0 ∈ kr.fds := mf0
    have ef0 : f0.1 = fl[j] := ef0
    have g015 := g12.trans g15
    have sch15 := sch.gr W g015
    have hfd15 := (sch15.2.1.ka kr mk).d
    have hsh := fok.sh f0 mf0
    have hsa := hfd15.sh f0 mf0
    refine ⟨.ref b, rfl, .ref q, rfl, .ref od, rfl, .ref kr.da, rfl, .str fl[j], rfl, kr.da, f0.2.1, rfl, .inl ⟨fkv kr.fds, .inr fl[j], .inl hfd15.at_, rfl, by rw [← ef0]; exact (fkv_val fok.nd mf0).symm⟩, .int (bad : Int), rfl,
     b, r, q, kt, ft, ut, od, f0.2.1, f0.2.2, bad, ks, fs, us, root, kd, 4, rfl, W15, sch15, hsa, hsh, by decide, by decide, g15 _ _ nodb eo12, knd, by omega, kdn, hbad, fun v d H17 g17 W17 va17 vo17 cl17 => ?_⟩
    have efd17 := g17 _ _ nfdb efd15
    have vl : (vkv vs).length ≤ 10 := by
     have h1 : (vkv vs).length = (vs.map (·.1)).length := by unfold vkv; rw [List.length_map, List.length_map]
     rw [h1, hvs, List.length_take]
     omega
    have hnew : (Sum.inr fl[j] : Key) ∉ (vkv vs).map (·.1) := fun m => by
     rw [vkv_keys, hvs] at m
     obtain ⟨z, mz, ez⟩ := List.mem_map.mp m
     cases ez
     exact take_newE flnd (List.getElem?_eq_getElem hj) mz
    refine ⟨.ref fd, rfl, .str fl[j], rfl, fd, _, rfl, DPut.k (k := Sum.inr fl[j]) efd17 (lt _ (by omega)), ?_⟩
    have ekv : putK (vkv vs) (Sum.inr fl[j]) v = vkv (vs ++ [(fl[j], v, d)]) := by
     rw [putK_end hnew]
     unfold vkv
     rw [List.map_append]
     rfl
    have hl17 : Lt b H17 (upd H17 fd (.dK (putK (vkv vs) (Sum.inr fl[j]) v))) := Lt.put efd17
    have ndr : fd ≠ r := by
     obtain ⟨ys, er⟩ := W17.rls
     exact (ne_of er efd17 (by intro z; cases z)).symm
    refine ⟨_, vs ++ [(fl[j], v, d)], rfl, by rw [upd_same, ekv], by rw [upd_ne npff.symm]; exact g17 _ _ npfb epf15, ?_, fun f mf => ?_, fun f mf => ?_, (g15.trans g17).upd nfd, W17.upd nfdb ndr⟩
    ·rw [List.map_append, hvs, List.take_add_one, List.getElem?_eq_getElem hj]
     rfl
    ·rcases List.mem_append.mp mf with mf | mf
     ·exact ((va f mf).ltB W g17.lt).ltB W hl17
     ·rw [List.mem_singleton.mp mf]
      exact (VA.fromB W15 g015 g17 va17).ltB W hl17
    ·rcases List.mem_append.mp mf with mf | mf
     ·exact vok f mf
     ·rw [List.mem_singleton.mp mf]
      intro f1 mf1 e1
      have e1 : f1.1 = fl[j] := e1
      rw [efd] at mf1
      have : f1 = f0 := nd_inj (f := fun f : Fld => f.1) fok.nd mf1 mf0 (e1.trans ef0.symm)
      subst this
      exact ⟨vo17, cl17⟩
   ·rintro σ H15 ⟨y12', vs, rfl, efd15, epf15, hvs, va, vok, g15, W15⟩
    rw [List.length_map, List.take_length] at hvs
    have eo15 := g15 _ _ nodb eo12
    have ett15 := g15 _ _ nttb e12
    refine ⟨.ref od, rfl, .str c.1, rfl, od, .str c.2, rfl, .inl ⟨kdv kd, .inr c.1, .inl eo15, rfl, hcv.symm⟩, .ref fd, rfl, hS 2 (by decide), fun ta nta => ?_⟩
    have s16 := same_new (o := .tup [.str c.2, .ref fd]) nta
    have e16 : (upd H15 ta (.tup [.str c.2, .ref fd])) ta = some (.tup [.str c.2, .ref fd]) := upd_same
    generalize upd H15 ta (.tup [.str c.2, .ref fd]) = H16 at s16 e16
    have W16 := W15.same s16
    have ett16 := s16 _ _ ett15
    have hkl' : (thkv ths).length ≤ 20 := by
     have h1 : (thkv ths).length = (kdl ths).length := by unfold thkv kdl; rw [List.length_map, List.length_map]
     rw [h1, hkd, List.length_take]
     omega
    have hnmT : ths.map (·.nm) = (kd.map (·.1)).take i := by
     have h1 : ths.map (·.nm) = (kdl ths).map Prod.fst := by unfold kdl; rw [List.map_map]; rfl
     rw [h1, hkd, List.map_take]
    have hnew : (Sum.inr c.1 : Key) ∉ (thkv ths).map (·.1) := fun m => by
     rw [thkv_keys, hnmT] at m
     obtain ⟨z, mz, ez⟩ := List.mem_map.mp m
     cases ez
     exact take_newE knd (by rw [List.getElem?_map, ec]; rfl) mz
    refine ⟨.ref tt, rfl, .str c.1, rfl, tt, _, rfl, DPut.k (k := Sum.inr c.1) ett16 (lt _ (by omega)), ?_⟩
    have ekv : putK (thkv ths) (Sum.inr c.1) (.ref ta) = thkv (ths ++ [⟨c.1, c.2, ta, fd, vs⟩]) := by
     rw [putK_end hnew]
     unfold thkv
     rw [List.map_append]
     rfl
    have g1216 : Gr b H12 H16 := fun a o n e => s16 a o (g15 a o n e)
    have nttr : tt ≠ r := by
     obtain ⟨ys, er⟩ := W16.rls
     exact (ne_of er ett16 (by intro z; cases z)).symm
    refine ⟨_, _, _, _, ths ++ [⟨c.1, c.2, ta, fd, vs⟩], rfl, (g12.trans g1216).upd ntt0, W16.upd nttb nttr, by rw [upd_ne nodtt]; exact s16 _ _ eo15, by rw [upd_ne (ne_of (g1216 _ _ npsb ep12) ett16 (by intro z; cases z))]; exact g1216 _ _ npsb ep12, by rw [upd_ne (ne_of (g1216 _ _ npnb epn12) ett16 (by intro z; cases z))]; exact g1216 _ _ npnb epn12, by rw [upd_same, ekv], ?_, fun x mx => ?_⟩
    ·unfold kdl at hkd ⊢
     rw [List.map_append, hkd, List.take_add_one, ec]
     rfl
    ·rcases List.mem_append.mp mx with mx | mx
     ·exact ((hth x mx).gr W W12 g1216).put W ett16
     ·rw [List.mem_singleton.mp mx]
      refine TGe.put W ett16 ⟨e16, s16 _ _ efd15, nfd0, nft, fun f mf => (va f mf).ltB W (fun a o _ _ e => s16 a o e), kdk c mc, ?_, fun f mf => vok f mf⟩
      show (vs.map (·.1)).Perm ((fdsAt ks fs c.2).map (·.1))
      rw [hvs, efd]
      exact pmf
  ·rintro σ H12 ⟨y9, y10, y11, y12, ths, rfl, g12, W12, eo12, ep12, epn12, e12, hkd, hth⟩
   have ezz : kd.take ((kd.map (·.1)).map V.str).length = kd := List.take_of_length_le (by rw [List.length_map, List.length_map]; exact Nat.le_refl _)
   rw [ezz] at hkd
   have w0 : 0 < ws.length := by omega
   refine ⟨.ref tt, rfl, .ref pn, rfl, pn, _, 0, .str ws[0], rfl, rfl, SqL.of epn12, atI_nat (j := 0) (by rw [List.getElem?_map, List.getElem?_eq_getElem w0]; rfl), hS 2 (by decide), fun p np => ?_⟩
   have s13 := same_new (o := .tup [.ref tt, .str ws[0]]) np
   have e13 : (upd H12 p (.tup [.ref tt, .str ws[0]])) p = some (.tup [.ref tt, .str ws[0]]) := upd_same
   have npb := W12.neb np
   generalize upd H12 p (.tup [.ref tt, .str ws[0]]) = H13 at s13 e13
   have g13 : Gr b H12 H13 := fun a o _ e => s13 a o e
   have hnmT : ths.map (·.nm) = kd.map (·.1) := by
    have h1 : ths.map (·.nm) = (kdl ths).map Prod.fst := by unfold kdl; rw [List.map_map]; rfl
    rw [h1, hkd]
   have hlen : ths.length = gv.length := by
    have := congrArg List.length hnmT
    rw [List.length_map, List.length_map] at this
    omega
   have hth13 : ∀ y ∈ ths, TGe H H13 tt ks fs us (kdl ths) bad y := fun y my => by
    rw [hkd]
    exact (hth y my).gr W W12 g13
   have hfi : (ws[0], root) ∈ kdl ths := by
    rw [hkd]
    cases gv with
    | nil => cases hd
    | cons x y =>
     cases hd
     cases kd with
     | nil => cases kds
     | cons c kd' =>
      have h1 : c.2 = root := (List.cons.inj kds).1
      have h2 : c.1 = ws[0] := by
       have := congrArg List.head? kdf
       rw [List.head?_take, if_neg (by simp)] at this
       have e0 : ws.head? = some ws[0] := by rw [List.head?_eq_getElem?, List.getElem?_eq_getElem w0]
       rw [e0] at this
       exact Option.some.inj this
      rw [← h1, ← h2]
      exact List.mem_cons_self
   refine k p tt ths ws[0] H13 e13 (s13 _ _ e12) ntt0 hth13 ⟨by omega, by omega, by rw [hnmT]; exact knd, fun y my => ?_, fun y my => (hth13 y my).kd, fun y my => (hth13 y my).pm, fun y my f mf fl mfl e => ((hth13 y my).ok f mf fl mfl e).1, hfi⟩ (by omega) (fun z kk mk => ?_) (fun a o n e => s13 a o (g12 a o n e)) (W12.same s13) (g12.free npb np)
   ·have : y.nm ∈ kd.map (·.1) := by rw [← hnmT]; exact List.mem_map_of_mem my
    obtain ⟨c, mc, ec⟩ := List.mem_map.mp this
    rw [← ec]
    exact kdn c mc
   ·rw [hkd]
    have : kk ∈ kd.map Prod.snd := by rw [kds]; exact cov z kk mk
    obtain ⟨c, mc, ec⟩ := List.mem_map.mp this
    exact ⟨c, mc, ec⟩
end
end NW
namespace NW
open PySem PySem.Spec PyProof.Rows L2
open TL (tl)
open StX (pa_star)

inductive VT (H : Hp) : Nat → V → PyData → List Addr → Prop
 | non (n : Nat) : VT H n .non .none []
 | fail (n : Nat) {a : Addr} (e : H a = some (.tup [.str "fail"])) : VT H n (.ref a) failD []
 | num (n : Nat) (i : Int) : VT H n (.int i) (.int i) []
 | txt (n : Nat) {x : Str} (h : PyData.strOk x = true) (l : x.length ≤ 1000) : VT H n (.str x) (.str x) []
 | lst (n : Nat) {a : Addr} {xs : List V} {ds : List PyData} {Ss : List (List Addr)} (e : H a = some (.lst xs)) (hl : xs.length = ds.length) (hs : xs.length = Ss.length) (hm : xs.length ≤ 6)
   (al : ∀ (i : Nat) x d S, xs[i]? = some x → ds[i]? = some d → Ss[i]? = some S → VT H n x d S) : VT H (n + 1) (.ref a) (.list ds) (a :: Ss.flatten)
section
variable {H H' H1 H2 : Hp} {n : Nat} {v : V} {d : PyData} {S : List Addr}
theorem mem_flat {Ss : List (List Addr)} {a : Addr} : a ∈ Ss.flatten ↔ ∃ (i : Nat) (S : List Addr), Ss[i]? = some S ∧ a ∈ S := by
 rw [List.mem_flatten]
 constructor
 ·rintro ⟨S, m, h⟩
  obtain ⟨i, hi, rfl⟩ := List.getElem_of_mem m
  exact ⟨i, _, List.getElem?_eq_getElem hi, h⟩
 ·rintro ⟨i, S, e, h⟩
  exact ⟨S, List.mem_of_getElem? e, h⟩
theorem VT.keep (h : VT H n v d S) (hS : ∀ a xs, a ∈ S → H a = some (.lst xs) → H' a = some (.lst xs)) (t : ∀ a xs, H a = some (.tup xs) → H' a = some (.tup xs)) : VT H' n v d S := by
 induction h with
 | non n => exact .non n
 | fail n e => exact .fail n (t _ _ e)
 | num n i => exact .num n i
 | txt n h l => exact .txt n h l
 | lst n e hl hs hm al ih =>
  exact .lst n (hS _ _ List.mem_cons_self e) hl hs hm fun i x d S ex ed eS => ih i x d S ex ed eS fun a xs m => hS a xs (List.mem_cons_of_mem _ (mem_flat.mpr ⟨i, S, eS, m⟩))
theorem VT.same (s : Same H H') (h : VT H n v d S) : VT H' n v d S := h.keep (fun _ _ _ e => s _ _ e) fun _ _ e => s _ _ e
theorem VT.va (h : VT H n v d S) : VA H n v d := by
 induction h with
 | non n => exact .non n
 | fail n e => exact .fail n e
 | num n i => exact .num n i
 | txt n h l => exact .txt n h l
 | lst n e hl hs hm al ih =>
  exact .lst n e hl hm fun i x d ex ed => by
   have hi := (List.getElem?_eq_some_iff.mp ex).1
   exact ih i x d _ ex ed (List.getElem?_eq_getElem (by omega))
theorem VT.has (h : VT H n v d S) : ∀ a ∈ S, ∃ xs, H a = some (.lst xs) := by
 induction h with
 | non n => exact fun a m => nomatch m
 | fail n e => exact fun a m => nomatch m
 | num n i => exact fun a m => nomatch m
 | txt n h l => exact fun a m => nomatch m
 | lst n e hl hs hm al ih =>
  intro a m
  rcases List.mem_cons.mp m with rfl | m
  ·exact ⟨_, e⟩
  ·obtain ⟨i, S, eS, m⟩ := mem_flat.mp m
   have hi := (List.getElem?_eq_some_iff.mp eS).1
   exact ih i _ _ S (List.getElem?_eq_getElem (by omega)) (List.getElem?_eq_getElem (by omega)) eS a m
def OffT (S : List Addr) (H H' : Hp) : Prop := (∀ b o, H b = some o → b ∉ S → H' b = some o) ∧ ∀ b ∈ S, ∃ xs, H' b = some (.lst xs)
theorem VT.tupKeep (h : ∀ a ∈ S, ∃ xs, H a = some (.lst xs)) (o : OffT S H H') : ∀ a xs, H a = some (.tup xs) → H' a = some (.tup xs) := fun a xs e => o.1 a _ e fun m => by
 obtain ⟨ys, e2⟩ := h a m
 rw [e2] at e
 cases e
theorem flat_take_off {Ss : List (List Addr)} (nd : Ss.flatten.Nodup) {i k : Nat} (hk : i ≤ k) {S : List Addr} (eS : Ss[k]? = some S) {a : Addr} (m : a ∈ S) : a ∉ (Ss.take i).flatten := fun m2 => by
 rw [← List.take_append_drop i Ss, List.flatten_append, List.nodup_append] at nd
 refine nd.2.2 a m2 a (mem_flat.mpr ⟨k - i, S, ?_, m⟩) rfl
 rw [List.getElem?_drop, show i + (k - i) = k by omega, eS]
theorem flat_nd {Ss : List (List Addr)} (nd : Ss.flatten.Nodup) {k : Nat} {S : List Addr} (eS : Ss[k]? = some S) : S.Nodup := by
 have hk := (List.getElem?_eq_some_iff.mp eS)
 exact nd.sublist (List.sublist_flatten_of_mem (List.mem_of_getElem? eS))
theorem flat_take_succ {Ss : List (List Addr)} {k : Nat} {S : List Addr} (eS : Ss[k]? = some S) : (Ss.take (k + 1)).flatten = (Ss.take k).flatten ++ S := by
 rw [List.take_add_one, eS, List.flatten_append]
 simp
end

section
variable {P : Program} {w : World} {K : PySem.W.Frag} {mg : Str → Option Value} {base : Heap}
def spcopiedT (n : Nat) : Sp := fun vs H Q _ => ∃ (v : V) (d : PyData), vs = [v] ∧ VA H n v d ∧ ∀ v' S H', Same H H' → VT H' n v' d S → S.Nodup → (∀ a ∈ S, H a = none) → Q v' H'
theorem ok_copiedT {f : Addr} {fd : FuncData} (D_copied : Df K mg "copied" s_copied f fd ["value"]) (T : Nms mg) : ∀ n : Nat, FnOk P w K mg base CX0 (n + 1) f fd ["value"] (spcopiedT n) := by
 intro n
 induction n with
 | zero =>
  refine D_copied.F.ok sc_copied (fun vs H Q E h => ?_) (fun cdv A outer s H vs Q E hr h => ?_)
  ·obtain ⟨v, d, rfl, _⟩ := h
   rfl
  ·obtain ⟨v, d, rfl, hv, q⟩ := h
   refine ⟨_, (pss_cons (ps_if (pt_val (pe_callB call_isi (by rfl) T.n_isinstance (by decide +kernel) (pa_cons (pv 0) (pa_cons (pe_bltn (v := .ty "list") (by rfl) T.n_list (by decide +kernel) rfl) pa_nil)))) (pss_one ps_never) pss_nil) (pss_one (ps_ret (pv 0)))), ?_⟩
   have nn : ∀ a ∈ ([] : List Addr), H a = none := fun a m => nomatch m
   cases hv with
   | non n => exact ⟨.non, rfl, _, _, _, _, false, rfl, .ty "list", .base .non, kit_ty (by decide +kernel), false, rfl, iteF ⟨.non, rfl, q _ _ H (Same.refl _) (.non _) .nil nn⟩⟩
   | @fail n a e => exact ⟨.ref a, rfl, _, _, _, _, false, rfl, .ty "list", .base (.tup e), kit_ty (by decide +kernel), false, rfl, iteF ⟨.ref a, rfl, q _ _ H (Same.refl _) (.fail _ e) .nil nn⟩⟩
   | num n i => exact ⟨.int i, rfl, _, _, _, _, false, rfl, .ty "list", .base (.int i), kit_ty (by decide +kernel), false, rfl, iteF ⟨.int i, rfl, q _ _ H (Same.refl _) (.num _ i) .nil nn⟩⟩
   | @txt n x h l => exact ⟨.str x, rfl, _, _, _, _, false, rfl, .ty "list", .base (.str x), kit_ty (by decide +kernel), false, rfl, iteF ⟨.str x, rfl, q _ _ H (Same.refl _) (.txt _ h l) .nil nn⟩⟩
 | succ n ih =>
  have G_copied := ih
  refine D_copied.F.ok sc_copied (fun vs H Q E h => ?_) (fun cdv A outer s H vs Q E hr h => ?_)
  ·obtain ⟨v, d, rfl, _⟩ := h
   rfl
  ·obtain ⟨v, d, rfl, hv, q⟩ := h
   refine ⟨_, (pss_cons (ps_if (pt_val (pe_callB call_isi (by rfl) T.n_isinstance (by decide +kernel) (pa_cons (pv 0) (pa_cons (pe_bltn (v := .ty "list") (by rfl) T.n_list (by decide +kernel) rfl) pa_nil))))
     (pss_one (ps_ret (pe_lc (own := [("item", 1)]) (g := (gName 1)) (tt := tYes) rfl sc_copied.nd (pi_list (pv 0)) (blkOk_by (own := [("item", 1)]) (N := N_copied) (sc := defScope s_copied) (by decide +kernel)) (fun _ _ _ _ _ => (pg_name (i := 1) sc_copied.nd rfl (.inl rfl))) (fun _ _ _ _ _ => pts_nil) (fun _ _ _ _ _ => (pe_call G_copied (hr.mono (by omega)) (by rfl) D_copied.g D_copied.F.kp D_copied.b .nil pass0 (pa_cons (pv 1) pa_nil))))))
     pss_nil)
    (pss_one (ps_ret (pv 0)))), ?_⟩
   have nn : ∀ a ∈ ([] : List Addr), H a = none := fun a m => nomatch m
   cases hv with
   | non n => exact ⟨.non, rfl, _, _, _, _, false, rfl, .ty "list", .base .non, kit_ty (by decide +kernel), false, rfl, iteF ⟨.non, rfl, q _ _ H (Same.refl _) (.non _) .nil nn⟩⟩
   | @fail n a e => exact ⟨.ref a, rfl, _, _, _, _, false, rfl, .ty "list", .base (.tup e), kit_ty (by decide +kernel), false, rfl, iteF ⟨.ref a, rfl, q _ _ H (Same.refl _) (.fail _ e) .nil nn⟩⟩
   | num n i => exact ⟨.int i, rfl, _, _, _, _, false, rfl, .ty "list", .base (.int i), kit_ty (by decide +kernel), false, rfl, iteF ⟨.int i, rfl, q _ _ H (Same.refl _) (.num _ i) .nil nn⟩⟩
   | @txt n x h l => exact ⟨.str x, rfl, _, _, _, _, false, rfl, .ty "list", .base (.str x), kit_ty (by decide +kernel), false, rfl, iteF ⟨.str x, rfl, q _ _ H (Same.refl _) (.txt _ h l) .nil nn⟩⟩
   | @lst n a xs ds e hl hm al =>
    refine ⟨.ref a, rfl, _, _, _, _, true, rfl, .ty "list", .base (.lst e), kit_ty (by decide +kernel), true, rfl, iteT ⟨.ref a, rfl, a, rfl, ⟨xs, .of e⟩, fun Da nD => ?_⟩⟩
    refine lc_it (walk_list (xs := xs)) (fun i H3 => ∃ ys Ss, H3 Da = some (.lst ys) ∧ ys.length = i ∧ ys.length = Ss.length ∧ Same H H3 ∧ (∀ (k : Nat) y d S, ys[k]? = some y → ds[k]? = some d → Ss[k]? = some S → VT H3 n y d S) ∧ (Da :: Ss.flatten).Nodup ∧ ∀ a ∈ Da :: Ss.flatten, H a = none)
     ⟨[], [], upd_same, rfl, rfl, same_new nD, (fun k y d S e => by simp at e), (by simp), fun a m => by rw [List.mem_singleton.mp m]; exact nD⟩ (fun i H3 _ ⟨_, _, _, _, _, s3, _⟩ => SqL.of (s3 _ _ e)) ?_ ?_
    ·rintro i x H3 H3' hi ⟨ys, Ss, e3, hy, hS, s3, ok, nd, nw⟩ ⟨rfl, ex⟩
     have hd : i < ds.length := by omega
     refine ⟨rfl, lcT ⟨x, rfl, x, ds[i], rfl, (al i x ds[i] ex (by simp [hd])).same s3, fun v' S' H4 s4 va nd' nw' => ?_⟩⟩
     have eD : H4 Da = some (.lst ys) := s4 _ _ e3
     have sD : Same H (upd H4 Da (.lst (ys ++ [v']))) := same_upd (s3.trans s4) nD
     have has : ∀ a ∈ Ss.flatten, ∃ zs, H3' a = some (.lst zs) := fun a m => by
      obtain ⟨k, S, eS, m⟩ := mem_flat.mp m
      have hk := (List.getElem?_eq_some_iff.mp eS).1
      exact (ok k _ _ S (List.getElem?_eq_getElem (by omega)) (List.getElem?_eq_getElem (by omega)) eS).has a m
     have nDS : Da ∉ Ss.flatten := (List.nodup_cons.mp nd).1
     have nDS' : Da ∉ S' := fun m => by rw [nw' Da m] at e3; cases e3
     have tk : ∀ a xs, H4 a = some (.tup xs) → (upd H4 Da (.lst (ys ++ [v']))) a = some (.tup xs) := fun a xs e => by rw [upd_ne (ne_of e eD (by intro z; cases z))]; exact e
     refine ⟨ys, eD, by rw [hy]; exact Nat.lt_of_lt_of_le hi (Nat.le_trans hm (by decide)), ys ++ [v'], Ss ++ [S'], upd_same, by rw [List.length_append, hy]; rfl, by rw [List.length_append, List.length_append, hS]; rfl, sD, fun k y d S ek ed eS => ?_, ?_, ?_⟩
     ·by_cases hk : k < ys.length
      ·rw [List.getElem?_append_left hk] at ek
       rw [List.getElem?_append_left (by omega)] at eS
       refine ((ok k y d S ek ed eS).same s4).keep (fun a zs m e => ?_) tk
       rw [upd_ne (fun z => nDS (by rw [← z]; exact mem_flat.mpr ⟨k, S, eS, m⟩))]
       exact e
      ·have e0 : k = ys.length := by
        have := (List.getElem?_eq_some_iff.mp ek).1
        rw [List.length_append] at this
        simp only [List.length_cons, List.length_nil] at this
        omega
       subst e0
       rw [List.getElem?_append_right (Nat.le_refl _), Nat.sub_self] at ek
       rw [hS, List.getElem?_append_right (Nat.le_refl _), Nat.sub_self] at eS
       cases ek
       cases eS
       rw [hy, List.getElem?_eq_getElem hd] at ed
       cases ed
       refine va.keep (fun a zs m e => ?_) tk
       rw [upd_ne (fun z => nDS' (by rw [← z]; exact m))]
       exact e
     ·rw [List.flatten_append, show ([S'] : List (List Addr)).flatten = S' by simp, List.nodup_cons]
      refine ⟨fun m => ?_, List.nodup_append.mpr ⟨(List.nodup_cons.mp nd).2, nd', fun a ma b mb z => ?_⟩⟩
      ·rcases List.mem_append.mp m with m | m
       ·exact nDS m
       ·exact nDS' m
      ·obtain ⟨zs, ez⟩ := has a ma
       rw [z, nw' b mb] at ez
       cases ez
     ·intro a m
      rw [List.flatten_append, show ([S'] : List (List Addr)).flatten = S' by simp] at m
      rcases List.mem_cons.mp m with m | m
      ·exact nw a (by rw [m]; exact List.mem_cons_self)
      ·rcases List.mem_append.mp m with m | m
       ·exact nw a (List.mem_cons_of_mem _ m)
       ·exact s3.free (nw' a m)
    ·rintro H3 ⟨ys, Ss, e3, hy, hS, s3, ok, nd, nw⟩
     exact q _ _ H3 s3 (.lst n e3 (by rw [hy, hl]) hS (by rw [hy]; exact hm) ok) nd nw
end
abbrev s_Lcopy : Stmt := topS 71
abbrev N_Lcopy : List Str := ["_law_value_here", "_law_item"]
theorem sc_Lcopy : FnScope N_Lcopy ["_law_value_here"] (defScope s_Lcopy) := ⟨rfl, rfl, rfl, by decide +kernel, rfl, by decide +kernel, by decide +kernel⟩
section
variable {P : Program} {w : World} {K : PySem.W.Frag} {mg : Str → Option Value} {base : Heap}
def spLcopyT (n : Nat) : Sp := fun vs H Q _ => ∃ (v : V) (d : PyData), vs = [v] ∧ VA H n v d ∧ ∀ v' S H', Same H H' → VT H' n v' d S → S.Nodup → (∀ a ∈ S, H a = none) → Q v' H'
theorem ok_LcopyT {f : Addr} {fd : FuncData} (D_Lcopy : Df K mg "_law_copy" s_Lcopy f fd ["_law_value_here"]) (T : Nms mg) : ∀ n : Nat, FnOk P w K mg base CX0 (n + 1) f fd ["_law_value_here"] (spLcopyT n) := by
 intro n
 induction n with
 | zero =>
  refine D_Lcopy.F.ok sc_Lcopy (fun vs H Q E h => ?_) (fun cdv A outer s H vs Q E hr h => ?_)
  ·obtain ⟨v, d, rfl, _⟩ := h
   rfl
  ·obtain ⟨v, d, rfl, hv, q⟩ := h
   refine ⟨_, (pss_cons (ps_if (pt_val (pe_callB call_isi (by rfl) T.n_isinstance (by decide +kernel) (pa_cons (pv 0) (pa_cons (pe_bltn (v := .ty "list") (by rfl) T.n_list (by decide +kernel) rfl) pa_nil)))) (pss_one ps_never) pss_nil) (pss_one (ps_ret (pv 0)))), ?_⟩
   have nn : ∀ a ∈ ([] : List Addr), H a = none := fun a m => nomatch m
   cases hv with
   | non n => exact ⟨.non, rfl, _, _, _, _, false, rfl, .ty "list", .base .non, kit_ty (by decide +kernel), false, rfl, iteF ⟨.non, rfl, q _ _ H (Same.refl _) (.non _) .nil nn⟩⟩
   | @fail n a e => exact ⟨.ref a, rfl, _, _, _, _, false, rfl, .ty "list", .base (.tup e), kit_ty (by decide +kernel), false, rfl, iteF ⟨.ref a, rfl, q _ _ H (Same.refl _) (.fail _ e) .nil nn⟩⟩
   | num n i => exact ⟨.int i, rfl, _, _, _, _, false, rfl, .ty "list", .base (.int i), kit_ty (by decide +kernel), false, rfl, iteF ⟨.int i, rfl, q _ _ H (Same.refl _) (.num _ i) .nil nn⟩⟩
   | @txt n x h l => exact ⟨.str x, rfl, _, _, _, _, false, rfl, .ty "list", .base (.str x), kit_ty (by decide +kernel), false, rfl, iteF ⟨.str x, rfl, q _ _ H (Same.refl _) (.txt _ h l) .nil nn⟩⟩
 | succ n ih =>
  have G_Lcopy := ih
  refine D_Lcopy.F.ok sc_Lcopy (fun vs H Q E h => ?_) (fun cdv A outer s H vs Q E hr h => ?_)
  ·obtain ⟨v, d, rfl, _⟩ := h
   rfl
  ·obtain ⟨v, d, rfl, hv, q⟩ := h
   refine ⟨_, (pss_cons (ps_if (pt_val (pe_callB call_isi (by rfl) T.n_isinstance (by decide +kernel) (pa_cons (pv 0) (pa_cons (pe_bltn (v := .ty "list") (by rfl) T.n_list (by decide +kernel) rfl) pa_nil))))
     (pss_one (ps_ret (pe_lc (own := [("_law_item", 1)]) (g := (gName 1)) (tt := tYes) rfl sc_Lcopy.nd (pi_list (pv 0)) (blkOk_by (own := [("_law_item", 1)]) (N := N_Lcopy) (sc := defScope s_Lcopy) (by decide +kernel)) (fun _ _ _ _ _ => (pg_name (i := 1) sc_Lcopy.nd rfl (.inl rfl))) (fun _ _ _ _ _ => pts_nil) (fun _ _ _ _ _ => (pe_call G_Lcopy (hr.mono (by omega)) (by rfl) D_Lcopy.g D_Lcopy.F.kp D_Lcopy.b .nil pass0 (pa_cons (pv 1) pa_nil))))))
     pss_nil)
    (pss_one (ps_ret (pv 0)))), ?_⟩
   have nn : ∀ a ∈ ([] : List Addr), H a = none := fun a m => nomatch m
   cases hv with
   | non n => exact ⟨.non, rfl, _, _, _, _, false, rfl, .ty "list", .base .non, kit_ty (by decide +kernel), false, rfl, iteF ⟨.non, rfl, q _ _ H (Same.refl _) (.non _) .nil nn⟩⟩
   | @fail n a e => exact ⟨.ref a, rfl, _, _, _, _, false, rfl, .ty "list", .base (.tup e), kit_ty (by decide +kernel), false, rfl, iteF ⟨.ref a, rfl, q _ _ H (Same.refl _) (.fail _ e) .nil nn⟩⟩
   | num n i => exact ⟨.int i, rfl, _, _, _, _, false, rfl, .ty "list", .base (.int i), kit_ty (by decide +kernel), false, rfl, iteF ⟨.int i, rfl, q _ _ H (Same.refl _) (.num _ i) .nil nn⟩⟩
   | @txt n x h l => exact ⟨.str x, rfl, _, _, _, _, false, rfl, .ty "list", .base (.str x), kit_ty (by decide +kernel), false, rfl, iteF ⟨.str x, rfl, q _ _ H (Same.refl _) (.txt _ h l) .nil nn⟩⟩
   | @lst n a xs ds e hl hm al =>
    refine ⟨.ref a, rfl, _, _, _, _, true, rfl, .ty "list", .base (.lst e), kit_ty (by decide +kernel), true, rfl, iteT ⟨.ref a, rfl, a, rfl, ⟨xs, .of e⟩, fun Da nD => ?_⟩⟩
    refine lc_it (walk_list (xs := xs)) (fun i H3 => ∃ ys Ss, H3 Da = some (.lst ys) ∧ ys.length = i ∧ ys.length = Ss.length ∧ Same H H3 ∧ (∀ (k : Nat) y d S, ys[k]? = some y → ds[k]? = some d → Ss[k]? = some S → VT H3 n y d S) ∧ (Da :: Ss.flatten).Nodup ∧ ∀ a ∈ Da :: Ss.flatten, H a = none)
     ⟨[], [], upd_same, rfl, rfl, same_new nD, (fun k y d S e => by simp at e), (by simp), fun a m => by rw [List.mem_singleton.mp m]; exact nD⟩ (fun i H3 _ ⟨_, _, _, _, _, s3, _⟩ => SqL.of (s3 _ _ e)) ?_ ?_
    ·rintro i x H3 H3' hi ⟨ys, Ss, e3, hy, hS, s3, ok, nd, nw⟩ ⟨rfl, ex⟩
     have hd : i < ds.length := by omega
     refine ⟨rfl, lcT ⟨x, rfl, x, ds[i], rfl, (al i x ds[i] ex (by simp [hd])).same s3, fun v' S' H4 s4 va nd' nw' => ?_⟩⟩
     have eD : H4 Da = some (.lst ys) := s4 _ _ e3
     have sD : Same H (upd H4 Da (.lst (ys ++ [v']))) := same_upd (s3.trans s4) nD
     have has : ∀ a ∈ Ss.flatten, ∃ zs, H3' a = some (.lst zs) := fun a m => by
      obtain ⟨k, S, eS, m⟩ := mem_flat.mp m
      have hk := (List.getElem?_eq_some_iff.mp eS).1
      exact (ok k _ _ S (List.getElem?_eq_getElem (by omega)) (List.getElem?_eq_getElem (by omega)) eS).has a m
     have nDS : Da ∉ Ss.flatten := (List.nodup_cons.mp nd).1
     have nDS' : Da ∉ S' := fun m => by rw [nw' Da m] at e3; cases e3
     have tk : ∀ a xs, H4 a = some (.tup xs) → (upd H4 Da (.lst (ys ++ [v']))) a = some (.tup xs) := fun a xs e => by rw [upd_ne (ne_of e eD (by intro z; cases z))]; exact e
     refine ⟨ys, eD, by rw [hy]; exact Nat.lt_of_lt_of_le hi (Nat.le_trans hm (by decide)), ys ++ [v'], Ss ++ [S'], upd_same, by rw [List.length_append, hy]; rfl, by rw [List.length_append, List.length_append, hS]; rfl, sD, fun k y d S ek ed eS => ?_, ?_, ?_⟩
     ·by_cases hk : k < ys.length
      ·rw [List.getElem?_append_left hk] at ek
       rw [List.getElem?_append_left (by omega)] at eS
       refine ((ok k y d S ek ed eS).same s4).keep (fun a zs m e => ?_) tk
       rw [upd_ne (fun z => nDS (by rw [← z]; exact mem_flat.mpr ⟨k, S, eS, m⟩))]
       exact e
      ·have e0 : k = ys.length := by
        have := (List.getElem?_eq_some_iff.mp ek).1
        rw [List.length_append] at this
        simp only [List.length_cons, List.length_nil] at this
        omega
       subst e0
       rw [List.getElem?_append_right (Nat.le_refl _), Nat.sub_self] at ek
       rw [hS, List.getElem?_append_right (Nat.le_refl _), Nat.sub_self] at eS
       cases ek
       cases eS
       rw [hy, List.getElem?_eq_getElem hd] at ed
       cases ed
       refine va.keep (fun a zs m e => ?_) tk
       rw [upd_ne (fun z => nDS' (by rw [← z]; exact m))]
       exact e
     ·rw [List.flatten_append, show ([S'] : List (List Addr)).flatten = S' by simp, List.nodup_cons]
      refine ⟨fun m => ?_, List.nodup_append.mpr ⟨(List.nodup_cons.mp nd).2, nd', fun a ma b mb z => ?_⟩⟩
      ·rcases List.mem_append.mp m with m | m
       ·exact nDS m
       ·exact nDS' m
      ·obtain ⟨zs, ez⟩ := has a ma
       rw [z, nw' b mb] at ez
       cases ez
     ·intro a m
      rw [List.flatten_append, show ([S'] : List (List Addr)).flatten = S' by simp] at m
      rcases List.mem_cons.mp m with m | m
      ·exact nw a (by rw [m]; exact List.mem_cons_self)
      ·rcases List.mem_append.mp m with m | m
       ·exact nw a (List.mem_cons_of_mem _ m)
       ·exact s3.free (nw' a m)
    ·rintro H3 ⟨ys, Ss, e3, hy, hS, s3, ok, nd, nw⟩
     exact q _ _ H3 s3 (.lst n e3 (by rw [hy, hl]) hS (by rw [hy]; exact hm) ok) nd nw
end

abbrev s_Lchanged : Stmt := topS 77
abbrev N_Lchanged : List Str := ["_law_value_here", "_law_item"]
theorem sc_Lchanged : FnScope N_Lchanged ["_law_value_here"] (defScope s_Lchanged) := ⟨rfl, rfl, rfl, by decide +kernel, rfl, by decide +kernel, by decide +kernel⟩
section
variable {P : Program} {w : World} {K : PySem.W.Frag} {mg : Str → Option Value} {base : Heap}
def spLchanged (n : Nat) : Sp := fun vs H Q _ => ∃ (v : V) (d : PyData) (S : List Addr), vs = [v] ∧ VT H n v d S ∧ S.Nodup ∧ ∀ H', OffT S H H' → Q .non H'
theorem ok_Lchanged {f : Addr} {fd : FuncData} (D_Lchanged : Df K mg "_law_changed" s_Lchanged f fd ["_law_value_here"]) (T : Nms mg) : ∀ n : Nat, FnOk P w K mg base CX0 (n + 1) f fd ["_law_value_here"] (spLchanged n) := by
 intro n
 induction n with
 | zero =>
  refine D_Lchanged.F.ok sc_Lchanged (fun vs H Q E h => ?_) (fun cdv A outer s H vs Q E hr h => ?_)
  ·obtain ⟨v, d, S, rfl, _⟩ := h
   rfl
  ·obtain ⟨v, d, S, rfl, hv, hnd, q⟩ := h
   refine ⟨_, (pss_one (ps_if (pt_val (pe_callB call_isi (by rfl) T.n_isinstance (by decide +kernel) (pa_cons (pv 0) (pa_cons (pe_bltn (v := .ty "list") (by rfl) T.n_list (by decide +kernel) rfl) pa_nil)))) (pss_cons ps_never (pss_one ps_never)) pss_nil)), ?_⟩
   have nn : OffT [] H H := ⟨fun b o e _ => e, fun b m => nomatch m⟩
   cases hv with
   | non n => exact ⟨.non, rfl, _, _, _, _, false, rfl, .ty "list", .base .non, kit_ty (by decide +kernel), false, rfl, iteF (q H nn)⟩
   | @fail n a e => exact ⟨.ref a, rfl, _, _, _, _, false, rfl, .ty "list", .base (.tup e), kit_ty (by decide +kernel), false, rfl, iteF (q H nn)⟩
   | num n i => exact ⟨.int i, rfl, _, _, _, _, false, rfl, .ty "list", .base (.int i), kit_ty (by decide +kernel), false, rfl, iteF (q H nn)⟩
   | @txt n x h l => exact ⟨.str x, rfl, _, _, _, _, false, rfl, .ty "list", .base (.str x), kit_ty (by decide +kernel), false, rfl, iteF (q H nn)⟩
 | succ n ih =>
  have G_Lchanged := ih
  refine D_Lchanged.F.ok sc_Lchanged (fun vs H Q E h => ?_) (fun cdv A outer s H vs Q E hr h => ?_)
  ·obtain ⟨v, d, S, rfl, _⟩ := h
   rfl
  ·obtain ⟨v, d, S, rfl, hv, hnd, q⟩ := h
   refine ⟨_, (pss_one (ps_if (pt_val (pe_callB call_isi (by rfl) T.n_isinstance (by decide +kernel) (pa_cons (pv 0) (pa_cons (pe_bltn (v := .ty "list") (by rfl) T.n_list (by decide +kernel) rfl) pa_nil))))
     (pss_cons (ps_for PassesOwn.never rfl (pi_list (pv 0)) (pg_name (i := 1) sc_Lchanged.nd rfl (.inl rfl))
      (pss_one (ps_expr (pe_call G_Lchanged (hr.mono (by omega)) (by rfl) D_Lchanged.g D_Lchanged.F.kp D_Lchanged.b .nil pass0 (pa_cons (pv 1) pa_nil)))))
     (pss_one (ps_expr (pe_bm PySem.F.plainAttrs_list PySem.F.slot_list_append PySem.F.type_list_append mt_append (pv 0) (pa_cons pe_str pa_nil)))))
     pss_nil)), ?_⟩
   have nn : OffT [] H H := ⟨fun b o e _ => e, fun b m => nomatch m⟩
   cases hv with
   | non n => exact ⟨.non, rfl, _, _, _, _, false, rfl, .ty "list", .base .non, kit_ty (by decide +kernel), false, rfl, iteF (q H nn)⟩
   | @fail n a e => exact ⟨.ref a, rfl, _, _, _, _, false, rfl, .ty "list", .base (.tup e), kit_ty (by decide +kernel), false, rfl, iteF (q H nn)⟩
   | num n i => exact ⟨.int i, rfl, _, _, _, _, false, rfl, .ty "list", .base (.int i), kit_ty (by decide +kernel), false, rfl, iteF (q H nn)⟩
   | @txt n x h l => exact ⟨.str x, rfl, _, _, _, _, false, rfl, .ty "list", .base (.str x), kit_ty (by decide +kernel), false, rfl, iteF (q H nn)⟩
   | @lst n a xs ds Ss e hl hs hm al =>
    obtain ⟨naS, ndS⟩ := List.nodup_cons.mp hnd
    refine ⟨.ref a, rfl, _, _, _, _, true, rfl, .ty "list", .base (.lst e), kit_ty (by decide +kernel), true, rfl, iteT ⟨.ref a, rfl, a, rfl, ⟨_, SqL.of e⟩, for_it (walk_list (xs := xs)) (fun i σ H' => ∃ y1 : Option V, σ = [some (.ref a), y1] ∧ OffT (Ss.take i).flatten H H') ⟨none, rfl, nn⟩ ?_ ?_ ?_⟩⟩
    ·rintro i σ H' _ ⟨_, _, o⟩
     exact SqL.of (o.1 _ _ e fun m => naS (by
      obtain ⟨k, S, eS, m⟩ := mem_flat.mp m
      rw [List.getElem?_take] at eS
      split at eS
      ·exact mem_flat.mpr ⟨k, S, eS, m⟩
      ·cases eS))
    ·rintro i x σ H1 H2 hi ⟨y1, rfl, o⟩ ⟨rfl, ex⟩
     have eS := List.getElem?_eq_getElem (show i < Ss.length by omega)
     have ed := List.getElem?_eq_getElem (show i < ds.length by omega)
     have hx := al i x _ _ ex ed eS
     have hhas : ∀ a ∈ (Ss.take i).flatten, ∃ xs, H a = some (.lst xs) := fun a m => by
      obtain ⟨k, S, ek, m⟩ := mem_flat.mp m
      rw [List.getElem?_take] at ek
      split at ek
      ·exact (al k _ _ S (List.getElem?_eq_getElem (by omega)) (List.getElem?_eq_getElem (by omega)) ek).has a m
      ·cases ek
     have hx2 : VT H2 n x _ _ := hx.keep (fun a zs m ea => o.1 a _ ea (flat_take_off ndS (Nat.le_refl i) eS m)) (VT.tupKeep hhas o)
     refine ⟨x, rfl, x, _, _, rfl, hx2, flat_nd ndS eS, fun H3 o3 => ⟨_, rfl, ?_⟩⟩
     rw [flat_take_succ eS]
     refine ⟨fun b u eb nb => ?_, fun b mb => ?_⟩
     ·exact o3.1 _ _ (o.1 _ _ eb fun m => nb (List.mem_append_left _ m)) fun m => nb (List.mem_append_right _ m)
     ·by_cases mS : b ∈ Ss[i]
      ·exact o3.2 b mS
      ·rcases List.mem_append.mp mb with mb | mb
       ·obtain ⟨zs, ez⟩ := o.2 b mb
        exact ⟨zs, o3.1 _ _ ez mS⟩
       ·exact absurd mb mS
    ·rintro σ H1 ⟨y1, rfl, o⟩
     rw [hs, List.take_length] at o
     have ea := o.1 _ _ e naS
     refine ⟨.ref a, rfl, .inl ⟨rfl, _, SqL.of ea⟩, a, xs, _, rfl, rfl, ea, Nat.lt_of_le_of_lt hm (by decide), q _ ⟨fun b u eb nb => ?_, fun b mb => ?_⟩⟩
     ·rw [upd_ne (fun z => nb (by rw [z]; exact List.mem_cons_self))]
      exact o.1 _ _ eb fun m => nb (List.mem_cons_of_mem _ m)
     ·by_cases z : b = a
      ·rw [z]
       exact ⟨_, upd_same⟩
      ·rcases List.mem_cons.mp mb with mb | mb
       ·exact absurd mb z
       ·obtain ⟨zs, ez⟩ := o.2 b mb
        exact ⟨zs, by rw [upd_ne z]; exact ez⟩
end

end NW
namespace NW
open PySem PySem.Spec PyProof.Rows L2
open TL (tl)
def rClear : V → List V → Hp → VK → Prop := fun x vs H Q => ∃ (d : Addr) (kvs : List (Key × V)), x = .ref d ∧ vs = [] ∧ H d = some (.dK kvs) ∧ Q .non (upd H d (.dK []))
theorem mt_clear {X : Cx} : MtR X "dict.clear" rClear := by
 intro pins s σ H x vs v us Q I rx rv h
 obtain ⟨d, kvs, rfl, rfl, hd, q⟩ := h
 cases rx
 cases rv
 obtain ⟨z1, y1, w1, r1, dd1⟩ := dk_of I.hok hd
 obtain ⟨o, es, ep, eo, exd, hdat, h3⟩ := id dd1
 refine call_meetsIn PySem.F.slot_dict_clear dd1.typeIs PySem.F.entry_dict_clear (PySem.F.args_dict_clear_1 _) (PySem.meets_dict_clear_raw d) ⟨es, ep, ⟨o, eo, exd, hdat⟩, ?_, fun h' hm hs => ?_⟩
 ·have h1 := h3.2.1.length
  rw [Array.length_toList] at h1
  have h2 := r1.length
  omega
 ·obtain ⟨o2, ho, hc, hdat2⟩ := hm
  exact ⟨.non, _, d_write (t' := s.toks) (ob := .dK []) I (by rw [hd]; exact True.intro) hs ⟨_, ho⟩ (dk_new (by decide) y1 .nil ⟨o2, #[], ep + 1, ho, hc, hdat2, fun _ hx => by simp at hx, .nil, List.nodup_nil⟩), rfl, q⟩
end NW
namespace NW
open PySem PySem.Spec PyProof.Rows L2
open TL (tl)
open StX (pa_star)

abbrev s_Lhanded : Stmt := topS 75
abbrev N_Lhanded : List Str := ["_law_given", "_law_things_here", "_law_thing", "_law_fields", "_law_field"]
theorem sc_Lhanded : FnScope N_Lhanded ["_law_given"] (defScope s_Lhanded) := ⟨rfl, rfl, rfl, by decide +kernel, rfl, by decide +kernel, by decide +kernel⟩
section
variable {H H' H1 H2 : Hp} {n : Nat} {v : V} {d : PyData} {S : List Addr}
theorem VT.tl (h : VT H n v d S) (l : ∀ a xs, H a = some (.lst xs) → H' a = some (.lst xs)) (t : ∀ a xs, H a = some (.tup xs) → H' a = some (.tup xs)) : VT H' n v d S := h.keep (fun a xs _ => l a xs) t
theorem VA.tlE {n : Nat} {v : V} {d : PyData} (l : ∀ a xs, H a = some (.lst xs) → H' a = some (.lst xs)) (t : ∀ a xs, H a = some (.tup xs) → H' a = some (.tup xs)) (h : VA H n v d) : VA H' n v d := by
 induction h with
 | non n => exact .non n
 | fail n e => exact .fail n (t _ _ e)
 | num n i => exact .num n i
 | txt n h l => exact .txt n h l
 | lst n e hl hm _ ih => exact .lst n (l _ _ e) hl hm ih
end
structure SfO (H H' : Hp) (Sf : Str → Str → List Addr) : Prop where
 nd : ∀ x z, (Sf x z).Nodup
 new : ∀ x z a, a ∈ Sf x z → H a = none
 has : ∀ x z a, a ∈ Sf x z → ∃ xs, H' a = some (.lst xs)
 dj : ∀ x z x' z' a, a ∈ Sf x z → a ∈ Sf x' z' → x = x' ∧ z = z'
theorem SfO.tl {H H1 H2 : Hp} {Sf : Str → Str → List Addr} (l : ∀ a xs, H1 a = some (.lst xs) → H2 a = some (.lst xs)) (h : SfO H H1 Sf) : SfO H H2 Sf :=
 ⟨h.nd, h.new, fun x z a m => by obtain ⟨xs, e⟩ := h.has x z a m; exact ⟨xs, l _ _ e⟩, h.dj⟩
theorem SfO.put {H H1 H2 : Hp} {Sf : Str → Str → List Addr} {S : List Addr} {c f : Str} (l : ∀ a xs, H1 a = some (.lst xs) → H2 a = some (.lst xs)) (h : SfO H H1 Sf) (nd : S.Nodup) (n0 : ∀ a ∈ S, H a = none) (n1 : ∀ a ∈ S, H1 a = none) (has : ∀ a ∈ S, ∃ xs, H2 a = some (.lst xs)) :
  SfO H H2 (fun x z => if x = c ∧ z = f then S else Sf x z) := by
 have off : ∀ x z a, a ∈ Sf x z → a ∉ S := fun x z a m m2 => by
  obtain ⟨xs, e⟩ := h.has x z a m
  rw [n1 a m2] at e
  cases e
 refine ⟨fun x z => ?_, fun x z a m => ?_, fun x z a m => ?_, fun x z x' z' a m m' => ?_⟩
 ·split
  ·exact nd
  ·exact h.nd x z
 ·split at m
  ·exact n0 a m
  ·exact h.new x z a m
 ·split at m
  ·exact has a m
  ·obtain ⟨xs, e⟩ := h.has x z a m
   exact ⟨xs, l _ _ e⟩
 ·split at m <;> split at m'
  ·rename_i p q
   exact ⟨p.1.trans q.1.symm, p.2.trans q.2.symm⟩
  ·exact absurd m (off _ _ _ m')
  ·exact absurd m' (off _ _ _ m)
  ·exact h.dj x z x' z' a m m'
structure HRow (H H' : Hp) (tp : Addr) (Sf : Str → Str → List Addr) (y : TRow) : Prop where
 t : H' y.t = some (.tup [.str y.kd, .ref y.da])
 d : H' y.da = some (.dK (vkv y.vs))
 n : H y.da = none
 ne : y.da ≠ tp
 v : ∀ f ∈ y.vs, VT H' 4 f.2.1 f.2.2 (Sf y.nm f.1)
structure HdT (H H' : Hp) (ht : Addr) (rs : List TRow) (Sf : Str → Str → List Addr) : Prop where
 s : SfO H H' Sf
 r : ∀ y ∈ rs, HRow H H' ht Sf y
 dd : (rs.map (·.da)).Nodup
section
variable {P : Program} {w : World} {K : PySem.W.Frag} {mg : Str → Option Value} {base : Heap}
def spLhanded : Sp := fun vs H Q _ => ∃ (p tt : Addr) (ks : List KRow) (fs : List FRow) (us : List URow) (root : Str) (ths : List TRow) (first : Str), vs = [.ref p] ∧ SchOk ks fs us root ∧ H p = some (.tup [.ref tt, .str first]) ∧ H tt = some (.dK (thkv ths)) ∧ (∀ r ∈ ths, r.At H ∧ r.da ≠ tt) ∧ StoOk ks fs us root ths first ∧
 ∀ tp rs Sf H', Same H H' → H tp = none → H' tp = some (.dK (thkv rs)) → tdat rs = tdat ths → HdT H H' tp rs Sf → Q (.ref tp) H'
theorem ok_Lhanded {f f1 : Addr} {fd fd1 : FuncData} (D : Df K mg "_law_handed" s_Lhanded f fd ["_law_given"]) (D_Lcopy : Df K mg "_law_copy" s_Lcopy f1 fd1 ["_law_value_here"]) (T : Nms mg) : FnOk P w K mg base CX0 6 f fd ["_law_given"] spLhanded := by
 have G_Lcopy := ok_LcopyT (P := P) (w := w) (base := base) D_Lcopy T 4
 refine D.F.ok sc_Lhanded (fun vs H Q E h => ?_) (fun cdv A outer sh H vs Q E hr h => ?_)
 ·obtain ⟨p, tt, ks, fs, us, root, ths, first, rfl, _⟩ := h
  rfl
 ·obtain ⟨p, tt, ks, fs, us, root, ths, first, rfl, ok, hp, htt, At, so, k⟩ := h
  have hu := hu_of hr
  have lt : ∀ n : Nat, n ≤ 1000 → n < sizeLine := fun n h => Nat.lt_of_le_of_lt h (by decide)
  have hS : ∀ n : Nat, n ≤ 1000 → n ≤ sizeLine := fun n h => Nat.le_trans h (by decide)
  refine ⟨_, (pss_cons (ps_set (i := 1) sc_Lhanded.nd rfl (.inl rfl) pe_dnewK)
   (pss_cons (ps_lock (ps_for PassesOwn.never rfl (pi_keys (pe_ix ix_tup (pv 0) pe_int (fun _ _ => rfl))) (pg_name (i := 2) sc_Lhanded.nd rfl (.inl rfl))
    (pss_cons (ps_set (i := 3) sc_Lhanded.nd rfl (.inl rfl) pe_dnewK)
    (pss_cons (ps_lock (ps_for PassesOwn.never rfl (pi_keys (pe_ix ix_tup (pe_dget hu (pe_ix ix_tup (pv 0) pe_int (fun _ _ => rfl)) (pv 2) (fun _ _ => rfl)) pe_int (fun _ _ => rfl))) (pg_name (i := 4) sc_Lhanded.nd rfl (.inl rfl))
     (pss_one (ps_dput hu (pv 3) (pv 4) (pe_call G_Lcopy (hr.mono (by decide)) (by rfl) D_Lcopy.g D_Lcopy.F.kp D_Lcopy.b .nil pass0 (pa_cons (pe_dget hu (pe_ix ix_tup (pe_dget hu (pe_ix ix_tup (pv 0) pe_int (fun _ _ => rfl)) (pv 2) (fun _ _ => rfl)) pe_int (fun _ _ => rfl)) (pv 4) (fun _ _ => rfl)) pa_nil)) rfl))))
    (pss_one (ps_dput hu (pv 1) (pv 2) (pe_tup (pa_cons (pe_ix ix_tup (pe_dget hu (pe_ix ix_tup (pv 0) pe_int (fun _ _ => rfl)) (pv 2) (fun _ _ => rfl)) pe_int (fun _ _ => rfl)) (pa_cons (pv 3) pa_nil))) rfl))))))
   (pss_one (ps_ret (pv 1))))), ?_⟩
  have n12 := so.n12
  have hln : (thkv ths).length = ths.length := List.length_map ..
  refine fun tp ntp => ?_
  have s1 := same_new (o := .dK []) ntp
  have e1 : (upd H tp (.dK [])) tp = some (.dK (thkv [])) := upd_same
  have ntt : tp ≠ tt := (ne_of_none htt ntp).symm
  generalize upd H tp (.dK []) = H1 at s1 e1
  have htt1 := s1 _ _ htt
  have hp1 := s1 _ _ hp
  have p1 : atI [V.ref tt, .str first] 0 = some (.ref tt) := atI_nat (j := 0) rfl
  have npt : p ≠ tt := ne_of hp htt (by intro z; cases z)
  have nptp : p ≠ tp := ne_of_none hp ntp
  refine ⟨tt, .dK (thkv ths), htt1, trivial, fun od => ⟨.ref p, rfl, p, _, 0, _, rfl, rfl, .inl (.inl (by rw [upd_ne npt]; exact hp1)), p1, tt, od, rfl, .inl ⟨thkv ths, upd_same, ?_⟩⟩⟩
  refine for_it walk_keys (fun i σ H' => ∃ (y3 y4 y5 : Option V) (ths2 : List TRow) (Sf : Str → Str → List Addr), σ = [some (.ref p), some (.ref tp), y3, y4, y5] ∧ H' tt = some (.frz od (.dK (thkv ths))) ∧ (∀ a o, a ≠ tt → a ≠ tp → H1 a = some o → H' a = some o) ∧ H' tp = some (.dK (thkv ths2)) ∧ tdat ths2 = (tdat ths).take i ∧ SfO H H' Sf ∧
   (∀ y ∈ ths2, HRow H H' tp Sf y) ∧ (ths2.map (·.da)).Nodup)
   ⟨none, none, none, [], fun _ _ => [], rfl, upd_same, (fun a o n1 n2 e => by rw [upd_ne n1]; exact e), by rw [upd_ne ntt]; exact e1, rfl, ⟨fun _ _ => .nil, fun _ _ _ m => (nomatch m), fun _ _ _ m => (nomatch m), fun _ _ _ _ _ m => (nomatch m)⟩, (fun y m => nomatch m), .nil⟩ (fun i σ H' _ h => ?_) ?_ ?_
  ·obtain ⟨_, _, _, _, _, _, h, _⟩ := h
   exact h
  ·rintro i y0 σ H2' H2 hi ⟨y3, y4, y5, ths2, Sf, rfl, ett, g2, etp, htd, hsf, hat, hdd⟩ ⟨rfl, kk, v, e, rfl⟩
   obtain ⟨r, er, rfl, rfl⟩ := thkv_at e
   have mr := List.mem_of_getElem? er
   obtain ⟨Ar, nrt⟩ := At r mr
   have nrtp : r.da ≠ tp := ne_of_none Ar.d ntp
   have hp2 := g2 _ _ npt nptp hp1
   have ht2 := g2 _ _ (ne_of Ar.t htt (by intro z; cases z)) (ne_of_none Ar.t ntp) (s1 _ _ Ar.t)
   have hd2 := g2 _ _ nrt nrtp (s1 _ _ Ar.d)
   have hv2 : ∀ f ∈ r.vs, VA H2 4 f.2.1 f.2.2 := fun f mf => (Ar.v f mf).tlE (fun a xs e => g2 _ _ (ne_of e htt (by intro z; cases z)) (ne_of_none e ntp) (s1 _ _ e)) (fun a xs e => g2 _ _ (ne_of e htt (by intro z; cases z)) (ne_of_none e ntp) (s1 _ _ e))
   have free2 : ∀ a, H2 a = none → H a = none := fun a e => by
    cases q : H a with
    | none => rfl
    | some o =>
     by_cases h : a = tt
     ·rw [h, ett] at e; cases e
     ·rw [g2 a o h (fun z => by rw [z, ntp] at q; cases q) (s1 _ _ q)] at e; cases e
   have vnd : (r.vs.map (·.1)).Nodup := so.fnd ok mr
   have v5 : r.vs.length ≤ 5 := by
    have h1 := (so.fd r mr).length_eq
    have h2 := fds_few ok (fds_ex (ks := ks) (fs := fs) (z := r.kd))
    rw [List.length_map, List.length_map] at h1
    omega
   have hval := thkv_val so.nd mr
   have hnm : r.nm ∉ ths2.map (fun f : TRow => f.nm) := by
    have e2 : ths2.map (fun f : TRow => f.nm) = (ths.map (·.nm)).take i := by
     have h1 := congrArg (List.map (·.1)) htd
     unfold tdat at h1
     rw [List.map_take, List.map_map, List.map_map] at h1
     exact h1
    rw [e2]
    exact take_newE so.nd (by rw [List.getElem?_map, er]; rfl)
   refine fun fp nfp => ?_
   have s3 := same_new (o := .dK []) nfp
   have e3 : (upd H2 fp (.dK [])) fp = some (.dK (vkv [])) := upd_same
   generalize upd H2 fp (.dK []) = H3 at s3 e3
   have nfd : fp ≠ r.da := (ne_of_none hd2 nfp).symm
   have nftp : fp ≠ tp := (ne_of_none etp nfp).symm
   have nft : fp ≠ tt := (ne_of_none ett nfp).symm
   have nfp' : p ≠ fp := ne_of_none hp2 nfp
   have npd : p ≠ r.da := ne_of hp2 hd2 (by intro z; cases z)
   have nrd : r.t ≠ r.da := ne_of ht2 hd2 (by intro z; cases z)
   have nrf : r.t ≠ fp := ne_of_none ht2 nfp
   have hnf : H fp = none := free2 _ nfp
   refine ⟨r.da, .dK (vkv r.vs), s3 _ _ hd2, trivial, fun od2 => ⟨.ref p, rfl, p, _, 0, _, rfl, rfl, .inl (.inl (by rw [upd_ne npd]; exact s3 _ _ hp2)), p1, .str r.nm, rfl, tt, _, rfl, .inl ⟨thkv ths, .inr r.nm, .inr ⟨od, by rw [upd_ne nrt.symm]; exact s3 _ _ ett⟩, rfl, hval.symm⟩, r.t, _, 1, _, rfl, rfl, .inl (.inl (by rw [upd_ne nrd]; exact s3 _ _ ht2)), atI_nat (j := 1) rfl, r.da, od2, rfl, .inl ⟨vkv r.vs, upd_same, ?_⟩⟩⟩
   refine for_it walk_keys (fun j σ H' => ∃ (y5 : Option V) (gv : List (Str × V × PyData)) (Sg : Str → Str → List Addr), σ = [some (.ref p), some (.ref tp), some (.str r.nm), some (.ref fp), y5] ∧ H' r.da = some (.frz od2 (.dK (vkv r.vs))) ∧ (∀ a o, a ≠ r.da → a ≠ fp → H3 a = some o → H' a = some o) ∧ H' fp = some (.dK (vkv gv)) ∧ vdat gv = (vdat r.vs).take j ∧ SfO H H' Sg ∧ (∀ x z, x ≠ r.nm → Sg x z = Sf x z) ∧ ∀ g ∈ gv, VT H' 4 g.2.1 g.2.2 (Sg r.nm g.1))
    ⟨_, [], Sf, rfl, upd_same, (fun a o n1 n2 e => by rw [upd_ne n1]; exact e), by rw [upd_ne nfd]; exact e3, rfl, hsf.tl (fun a xs e => by rw [upd_ne (ne_of e hd2 (by intro z; cases z))]; exact s3 _ _ e), (fun _ _ _ => rfl), fun y m => nomatch m⟩ (fun j σ H' _ h => ?_) ?_ ?_
   ·obtain ⟨_, _, _, _, h, _⟩ := h
    exact h
   ·rintro j y0 σ H4' H4 hj ⟨y5, gv, Sg, rfl, erd, g4, efp, hvd, hsg, hag, hva⟩ ⟨rfl, kk, v, e, rfl⟩
    obtain ⟨fl, ef, rfl, rfl⟩ := vkv_at e
    have mf := List.mem_of_getElem? ef
    have hp4 := g4 _ _ npd nfp' (s3 _ _ hp2)
    have ht4 := g4 _ _ nrd nrf (s3 _ _ ht2)
    have ett4 := g4 _ _ nrt.symm nft.symm (s3 _ _ ett)
    have hv4 : VA H4 4 fl.2.1 fl.2.2 := (hv2 fl mf).tlE (fun a xs e => g4 _ _ (ne_of e hd2 (by intro z; cases z)) (ne_of_none e nfp) (s3 _ _ e)) (fun a xs e => g4 _ _ (ne_of e hd2 (by intro z; cases z)) (ne_of_none e nfp) (s3 _ _ e))
    have free4 : ∀ a, H4 a = none → H a = none := fun a e => free2 a (by
     cases q : H2 a with
     | none => rfl
     | some o =>
      by_cases h : a = r.da
      ·rw [h, erd] at e; cases e
      ·rw [g4 a o h (ne_of_none q nfp) (s3 _ _ q)] at e; cases e)
    refine ⟨.ref p, rfl, p, _, 0, _, rfl, rfl, .inl (.inl hp4), p1, .str r.nm, rfl, tt, _, rfl, .inl ⟨thkv ths, .inr r.nm, .inr ⟨od, ett4⟩, rfl, hval.symm⟩, r.t, _, 1, _, rfl, rfl, .inl (.inl ht4), atI_nat (j := 1) rfl, .str fl.1, rfl, r.da, _, rfl, .inl ⟨vkv r.vs, .inr fl.1, .inr ⟨od2, erd⟩, rfl, (vkv_val vnd mf).symm⟩, fl.2.1, fl.2.2, rfl, hv4, fun v' S' H5 s5 va nd' nw' => ?_⟩
    have efp5 := s5 _ _ efp
    have gl : gv.length ≤ 5 := by
     have h1 := congrArg List.length hvd
     unfold vdat at h1
     rw [List.length_map, List.length_take, List.length_map] at h1
     omega
    refine ⟨.ref fp, rfl, .str fl.1, rfl, fp, _, rfl, DPut.k (k := Sum.inr fl.1) efp5 (lt _ (by unfold vkv; rw [List.length_map]; omega)), ?_⟩
    have hn : fl.1 ∉ gv.map (fun f : Str × V × PyData => f.1) := by
     have e2 : gv.map (fun f : Str × V × PyData => f.1) = (r.vs.map (·.1)).take j := by
      have := congrArg (List.map (·.1)) hvd
      rw [vdat_names, List.map_take, vdat_names] at this
      exact this
     rw [e2]
     exact nd_takeS vnd ef
    have ekv : putK (vkv gv) (Sum.inr fl.1) v' = vkv (gv ++ [(fl.1, v', fl.2.2)]) := put_snoc (f := fun f : Str × V × PyData => f.1) (g := fun f => f.2.1) (r := (fl.1, v', fl.2.2)) hn
    have kl : ∀ {kk : List (Key × V)} a xs, H5 a = some (.lst xs) → (upd H5 fp (.dK kk)) a = some (.lst xs) := fun a xs e => by rw [upd_ne (ne_of e efp5 (by intro z; cases z))]; exact e
    have kt : ∀ {kk : List (Key × V)} a xs, H5 a = some (.tup xs) → (upd H5 fp (.dK kk)) a = some (.tup xs) := fun a xs e => by rw [upd_ne (ne_of e efp5 (by intro z; cases z))]; exact e
    refine ⟨_, gv ++ [(fl.1, v', fl.2.2)], _, rfl, by rw [upd_ne nfd.symm]; exact s5 _ _ erd, (fun a o n1 n2 e => by rw [upd_ne n2]; exact s5 _ _ (g4 a o n1 n2 e)), by rw [upd_same, ekv], ?_, hsg.put (S := S') (c := r.nm) (f := fl.1) (fun a xs e => kl a xs (s5 _ _ e)) nd' (fun a m => free4 a (nw' a m)) nw' (fun a m => by obtain ⟨xs, e⟩ := va.has a m; exact ⟨xs, kl a xs e⟩), (fun x z nx => by rw [if_neg (fun h => nx h.1)]; exact hag x z nx), fun g mg => ?_⟩
    ·have e1 : (vdat r.vs)[j]? = some (fl.1, fl.2.2) := by
      unfold vdat
      rw [List.getElem?_map, ef]
      rfl
     rw [List.take_succ, e1, ← hvd]
     exact List.map_append ..
    ·rcases List.mem_append.mp mg with mg | mg
     ·have ng : g.1 ≠ fl.1 := fun z => hn (by rw [← z]; exact List.mem_map_of_mem (f := fun f : Str × V × PyData => f.1) mg)
      rw [if_neg (fun h => ng h.2)]
      exact ((hva g mg).same s5).tl kl kt
     ·rw [List.mem_singleton.mp mg, if_pos ⟨rfl, rfl⟩]
      exact va.tl kl kt
   ·rintro σ H4 ⟨y5, gv, Sg, rfl, erd, g4, efp, hvd, hsg, hag, hva⟩
    refine ⟨erd, ?_⟩
    have hvl : (vdat r.vs).length = (vkv r.vs).length := by unfold vdat vkv; rw [List.length_map, List.length_map]
    rw [← hvl, List.take_length] at hvd
    have g5 : ∀ a o, a ≠ fp → H3 a = some o → (upd H4 r.da (.dK (vkv r.vs))) a = some o := fun a o n e => by
     by_cases h : a = r.da
     ·subst h
      rw [upd_same, ← e, s3 _ _ hd2]
     ·rw [upd_ne h]
      exact g4 a o h n e
    have efp5 : (upd H4 r.da (.dK (vkv r.vs))) fp = some (.dK (vkv gv)) := by rw [upd_ne nfd]; exact efp
    have kl : ∀ {kk : List (Key × V)} a xs, H4 a = some (.lst xs) → (upd H4 r.da (.dK kk)) a = some (.lst xs) := fun a xs e => by rw [upd_ne (ne_of e erd (by intro z; cases z))]; exact e
    have kt : ∀ {kk : List (Key × V)} a xs, H4 a = some (.tup xs) → (upd H4 r.da (.dK kk)) a = some (.tup xs) := fun a xs e => by rw [upd_ne (ne_of e erd (by intro z; cases z))]; exact e
    have hva5 : ∀ g ∈ gv, VT (upd H4 r.da (.dK (vkv r.vs))) 4 g.2.1 g.2.2 (Sg r.nm g.1) := fun g mg => (hva g mg).tl kl kt
    have hsg5 : SfO H (upd H4 r.da (.dK (vkv r.vs))) Sg := hsg.tl kl
    generalize upd H4 r.da (.dK (vkv r.vs)) = H5 at g5 efp5 hva5 hsg5
    have s25 : Same H2 H5 := fun a o e => g5 a o (ne_of_none e nfp) (s3 _ _ e)
    refine ⟨.ref p, rfl, p, _, 0, _, rfl, rfl, .inl (.inl (s25 _ _ hp2)), p1, .str r.nm, rfl, tt, _, rfl, .inl ⟨thkv ths, .inr r.nm, .inr ⟨od, s25 _ _ ett⟩, rfl, hval.symm⟩, r.t, _, 0, _, rfl, rfl, .inl (.inl (s25 _ _ ht2)), atI_nat (j := 0) rfl, .ref fp, rfl, hS 2 (by decide), fun ta nta => ?_⟩
    have s6 := same_new (o := .tup [.str r.kd, .ref fp]) nta
    have e6 : (upd H5 ta (.tup [.str r.kd, .ref fp])) ta = some (.tup [.str r.kd, .ref fp]) := upd_same
    generalize upd H5 ta (.tup [.str r.kd, .ref fp]) = H6 at s6 e6
    have s26 := s25.trans s6
    have etp6 := s26 _ _ etp
    have tl2 : ths2.length = i := by
     have h1 := congrArg List.length htd
     unfold tdat at h1
     rw [List.length_map, List.length_take, List.length_map] at h1
     omega
    refine ⟨.ref tp, rfl, .str r.nm, rfl, tp, _, rfl, DPut.k (k := Sum.inr r.nm) etp6 (lt _ (by unfold thkv; rw [List.length_map]; omega)), ?_⟩
    have ekv : putK (thkv ths2) (Sum.inr r.nm) (.ref ta) = thkv (ths2 ++ [⟨r.nm, r.kd, ta, fp, gv⟩]) := put_snoc (f := fun f : TRow => f.nm) (g := fun f => V.ref f.t) (r := ⟨r.nm, r.kd, ta, fp, gv⟩) hnm
    have kl6 : ∀ {kk : List (Key × V)} a xs, H6 a = some (.lst xs) → (upd H6 tp (.dK kk)) a = some (.lst xs) := fun a xs e => by rw [upd_ne (ne_of e etp6 (by intro z; cases z))]; exact e
    have kt6 : ∀ {kk : List (Key × V)} a xs, H6 a = some (.tup xs) → (upd H6 tp (.dK kk)) a = some (.tup xs) := fun a xs e => by rw [upd_ne (ne_of e etp6 (by intro z; cases z))]; exact e
    refine ⟨_, _, _, ths2 ++ [⟨r.nm, r.kd, ta, fp, gv⟩], Sg, rfl, by rw [upd_ne ntt.symm]; exact s26 _ _ ett, (fun a o n1 n2 e => by rw [upd_ne n2]; exact s26 _ _ (g2 a o n1 n2 e)), by rw [upd_same, ekv], ?_, hsg5.tl (fun a xs e => kl6 a xs (s6 _ _ e)), fun y my => ?_, ?_⟩
    ·have e1 : (tdat ths)[i]? = some (r.nm, r.kd, vdat r.vs) := by
      unfold tdat
      rw [List.getElem?_map, er]
      rfl
     rw [List.take_succ, e1, ← htd]
     unfold tdat
     rw [List.map_append, ← hvd]
     rfl
    ·rcases List.mem_append.mp my with my | my
     ·have hy := hat y my
      have ny : y.nm ≠ r.nm := fun z => hnm (by rw [← z]; exact List.mem_map_of_mem (f := fun f : TRow => f.nm) my)
      exact ⟨by rw [upd_ne (ne_of hy.t etp (by intro z; cases z))]; exact s26 _ _ hy.t, by rw [upd_ne hy.ne]; exact s26 _ _ hy.d, hy.n, hy.ne, fun f mf => by rw [hag _ _ ny]; exact ((hy.v f mf).same s26).tl kl6 kt6⟩
     ·rw [List.mem_singleton.mp my]
      exact ⟨by rw [upd_ne (ne_of e6 etp6 (by intro z; cases z))]; exact e6, by rw [upd_ne nftp]; exact s6 _ _ efp5, hnf, nftp, fun f mf => ((hva5 f mf).same s6).tl kl6 kt6⟩
    ·rw [List.map_append, List.nodup_append]
     refine ⟨hdd, by simp, fun a ma b mb z => ?_⟩
     obtain ⟨y, my, rfl⟩ := List.mem_map.mp ma
     have eb : b = fp := by simpa using mb
     have := (hat y my).d
     rw [show y.da = fp from z.trans eb, nfp] at this
     cases this
  ·rintro σ H2 ⟨y3, y4, y5, ths2, Sf, rfl, ett, g2, etp, htd, hsf, hat, hdd⟩
   refine ⟨ett, ?_⟩
   have htl : (tdat ths).length = (thkv ths).length := by unfold tdat thkv; rw [List.length_map, List.length_map]
   rw [← htl, List.take_length] at htd
   have g3 : ∀ a o, a ≠ tp → H1 a = some o → (upd H2 tt (.dK (thkv ths))) a = some o := fun a o n e => by
    by_cases h : a = tt
    ·subst h
     rw [upd_same, ← e, htt1]
    ·rw [upd_ne h]
     exact g2 a o h n e
   have s3 : Same H (upd H2 tt (.dK (thkv ths))) := fun a o e => g3 a o (ne_of_none e ntp) (s1 _ _ e)
   have kl : ∀ {kk : List (Key × V)} a xs, H2 a = some (.lst xs) → (upd H2 tt (.dK kk)) a = some (.lst xs) := fun a xs e => by rw [upd_ne (ne_of e ett (by intro z; cases z))]; exact e
   have kt : ∀ {kk : List (Key × V)} a xs, H2 a = some (.tup xs) → (upd H2 tt (.dK kk)) a = some (.tup xs) := fun a xs e => by rw [upd_ne (ne_of e ett (by intro z; cases z))]; exact e
   exact ⟨.ref tp, rfl, k tp ths2 Sf _ s3 ntp (by rw [upd_ne ntt]; exact etp) htd ⟨hsf.tl kl, fun y my => by
    have hy := hat y my
    exact ⟨kt _ _ hy.t, by rw [upd_ne (ne_of hy.d ett (by intro z; cases z))]; exact hy.d, hy.n, hy.ne, fun f mf => (hy.v f mf).tl kl kt⟩, hdd⟩⟩
end
end NW
namespace NW
open PySem PySem.Spec PyProof.Rows L2
open TL (tl)
open StX (pa_star)

abbrev s_NoThing_init : Stmt := inClass (topS 7) 0
abbrev N_NoThing_init : List Str := ["self", "thing"]
theorem sc_NoThing_init : FnScope N_NoThing_init ["self", "thing"] (defScope s_NoThing_init) := ⟨rfl, rfl, rfl, by decide +kernel, rfl, by decide +kernel, by decide +kernel⟩
abbrev s_Store_things : Stmt := inClass (topS 53) 2
abbrev N_Store_things : List Str := ["self"]
theorem sc_Store_things : FnScope N_Store_things ["self"] (defScope s_Store_things) := ⟨rfl, rfl, rfl, by decide +kernel, rfl, by decide +kernel, by decide +kernel⟩
structure NoT (K : PySem.W.Frag) (mg : Str → Option Value) (C fI : Addr) : Prop where
 T : OexC K C
 iC : PySem.W.findIn K (.ref C) "__init__" = some (some (.ref fI))
 tI : PySem.W.typeIn K (.ref fI) = some (.type "function")
 g : mg "NoThing" = some (.ref C)
 no : PySem.W.findIn K (.ref C) "thing" = some none
section
variable {P : Program} {w : World} {K : PySem.W.Frag} {mg : Str → Option Value} {base : Heap}
def spNT (C : Addr) : Sp := fun vs H Q _ => ∃ (a : Addr) (y : V), vs = [.ref a, y] ∧ H a = some (exo a C none) ∧ ∀ dx, H dx = none → dx ≠ a → Q .non (upd (upd H dx (exd dx [("thing", y)])) a (exo a C (some dx)))
theorem ok_NT {f C : Addr} {fd : FuncData} (F : Fun K "__init__" "NoThing.__init__" s_NoThing_init f fd) (N : NoT K mg C f) : FnOk P w K mg base CX0 1 f fd ["self", "thing"] (spNT C) := by
 refine F.ok sc_NoThing_init (fun vs H Q E h => ?_) (fun cdv A outer s H vs Q E hr h => ?_)
 ·obtain ⟨a, y, rfl, _⟩ := h
  rfl
 ·obtain ⟨a, y, rfl, ha, q⟩ := h
  refine ⟨_, (pss_one (ps_ost (pv 0) (pv 1))), ?_⟩
  exact ⟨y, rfl, .ref a, rfl, a, C, rfl, N.T, N.no, .inl ⟨ha, q⟩⟩
def OutT (K : PySem.W.Frag) (H : Hp) (names : List Str) (y : V) : Prop := (∃ z, y = .str z ∧ z ∉ names) ∨ ∃ t, TyX K H y t ∧ PySem.W.kitOne K t (.type "str") = some false
theorem bad_T {CN : Addr} {y : V} {H : Hp} {E : XK} (k : ∀ d H', Same H H' → H d = none → H' d = some (.xd [("thing", y)]) → E (.ref CN) (some d) H') :
  ∀ a, H a = none → spNT CN ([.ref a, y]) (upd H a (exo a CN none)) (fun v H2 => v = .non ∧ ∃ (d : Addr) (fs : List (Str × V)), H2 a = some (exo a CN (some d)) ∧ H2 d = some (exd d fs) ∧ H d = none ∧ E (.ref CN) (some d) (upd (del H2 a) d (.xd fs))) E0 := by
 intro a na
 refine ⟨a, y, rfl, upd_same, fun d nd nda => ⟨rfl, d, [("thing", y)], upd_same, by rw [upd_ne nda, upd_same], ?_, ?_⟩⟩
 ·rw [upd_ne nda] at nd
  exact nd
 ·rw [upd_ne nda] at nd
  refine k d _ (fun b o eb => ?_) nd upd_same
  have nbd : b ≠ d := ne_of_none eb nd
  have nba : b ≠ a := ne_of_none eb na
  rw [upd_ne nbd, del_ne nba, upd_ne nba, upd_ne nbd, upd_ne nba]
  exact eb
theorem bad_F {CF : Addr} {y u : V} {H : Hp} {E : XK} (k : ∀ d H', Same H H' → H d = none → H' d = some (.xd [("field", u), ("base", y)]) → E (.ref CF) (some d) H') :
  ∀ a, H a = none → spNF CF ([.ref a, y, u]) (upd H a (exo a CF none)) (fun v H2 => v = .non ∧ ∃ (d : Addr) (fs : List (Str × V)), H2 a = some (exo a CF (some d)) ∧ H2 d = some (exd d fs) ∧ H d = none ∧ E (.ref CF) (some d) (upd (del H2 a) d (.xd fs))) E0 := by
 intro a na
 refine ⟨a, y, u, rfl, upd_same, fun d H2 nd nda ha hd rest => ⟨rfl, d, _, ha, hd, ?_, ?_⟩⟩
 ·rw [upd_ne nda] at nd
  exact nd
 ·rw [upd_ne nda] at nd
  refine k d _ (fun b o eb => ?_) nd upd_same
  have nbd : b ≠ d := ne_of_none eb nd
  have nba : b ≠ a := ne_of_none eb na
  rw [upd_ne nbd, del_ne nba, rest b nba nbd, upd_ne nba]
  exact eb
def spThings (CS : Addr) : Sp := fun vs H Q _ => ∃ (N : Hp) (st x : Addr) (first : Str) (ths : List TRow), vs = [.ref st] ∧ StoAt CS N H st x first ths ∧ ths.length ≤ 12 ∧
 ∀ (l : List Str) p H', l.Perm (ths.map (·.nm)) → sortedS l = true → Same H H' → H p = none → H' p = some (.lst (l.map V.str)) → Q (.ref p) H'
theorem ok_things {f CS : Addr} {fd : FuncData} (F : Fun K "things" "Store.things" s_Store_things f fd) (T : Nms mg) (L : StT K CS) : FnOk P w K mg base CX0 1 f fd ["self"] (spThings CS) := by
 refine F.ok sc_Store_things (fun vs H Q E h => ?_) (fun cdv A outer s H vs Q E hr h => ?_)
 ·obtain ⟨N, st, x, first, ths, rfl, _⟩ := h
  rfl
 ·obtain ⟨N, st, x, first, ths, rfl, S, hl, q⟩ := h
  refine ⟨_, (pss_one (ps_ret (pe_callB (call_sortedD rfl) (by rfl) T.n_sorted (by decide +kernel) (pa_cons (pe_fld (pv 0) rfl) pa_nil)))), ?_⟩
  obtain ⟨dx, tb, h1, h2⟩ := S.o
  exact ⟨.ref st, rfl, st, CS, dx, _, _, rfl, h1, L.cl, L.n3, stl3, tb, thkv ths, ths.map (·.nm), rfl, .inl h2, (by unfold thkv; rw [List.map_map, List.map_map]; rfl), by rw [List.length_map]; exact Nat.lt_of_le_of_lt hl (by decide), fun l p pm so np => q l p _ pm so (same_new np) np upd_same⟩
def spKindX (K : PySem.W.Frag) (CS CN : Addr) : Sp := fun vs H Q E => ∃ (N : Hp) (st x : Addr) (first : Str) (ths : List TRow) (y : V), vs = [.ref st, y] ∧ StoAt CS N H st x first ths ∧ (ths.map (·.nm)).Nodup ∧
 ((∃ r ∈ ths, y = .str r.nm ∧ Q (.str r.kd) H) ∨ (OutT K H (ths.map (·.nm)) y ∧ ∀ d H', Same H H' → H d = none → H' d = some (.xd [("thing", y)]) → E (.ref CN) (some d) H'))
theorem ok_kindX {f f1 f2 CS CN : Addr} {fd fd1 fd2 : FuncData} (F : Fun K "kind_of" "Store.kind_of" s_Store_kind_of f fd) (D_is_key : Df K mg "is_key" s_is_key f1 fd1 ["name", "table"]) (NN : NoT K mg CN f2) (bN : Binds K fd2 ["self", "thing"] []) (G_NT : FnOk P w K mg base CX0 1 f2 fd2 ["self", "thing"] (spNT CN)) (T : Nms mg) (L : StT K CS) :
  FnOk P w K mg base (L2N.CX P w) 3 f fd ["self", "thing"] (spKindX K CS CN) := by
 have G_is_key : FnOk P w K mg base CX0 1 f1 fd1 ["name", "table"] (spIsKey K) := ok_is_key D_is_key T
 refine okC F sc_Store_kind_of (fun vs H Q E h => ?_) (fun cdv A outer s H vs Q E hr h => ?_)
 ·obtain ⟨N, st, x, first, ths, y, rfl, _⟩ := h
  rfl
 ·obtain ⟨N, st, x, first, ths, y, rfl, S, nd, q⟩ := h
  have hu := hu_of hr
  refine ⟨_, (pss_cons (ps_if (pt_not (pt_val (pe_call G_is_key (hr.mono (by decide)) (by rfl) D_is_key.g D_is_key.F.kp D_is_key.b .nil pass0 (pa_cons (pv 1) (pa_cons (pe_fld (pv 0) rfl) pa_nil)))))
    (pss_one (L2N.ps_raise rfl (L2N.takes_of rfl rfl rfl rfl) (pmkN NN.T NN.iC NN.tI G_NT (hr.mono (by decide)) bN pass0 (by rfl) NN.g (pa_cons (pv 1) pa_nil))))
    pss_nil)
   (pss_one (ps_ret (pe_ix (ix_tupK K) (pe_dget hu (pe_fld (pv 0) rfl) (pv 1) (fun _ _ => rfl)) pe_int (fun _ _ => rfl))))), ?_⟩
  obtain ⟨dx, tb, h1, h2⟩ := S.o
  rcases q with ⟨r, mr, rfl, q⟩ | ⟨out, q⟩
  ·obtain ⟨t1, t2⟩ := S.t r mr
   have hv := thkv_val nd mr
   refine ⟨.str r.nm, rfl, .ref st, rfl, st, CS, dx, _, _, rfl, h1, L.cl, L.n3, stl3, .str r.nm, tb, rfl, .inl ⟨r.nm, rfl, .inr ⟨thkv ths, .inl h2, ?_⟩⟩⟩
   rw [hv]
   exact ⟨true, rfl, iteF ⟨.ref st, rfl, st, CS, dx, _, _, rfl, h1, L.cl, L.n3, stl3, .str r.nm, rfl, tb, _, rfl, .inl ⟨thkv ths, .inr r.nm, .inl h2, rfl, hv.symm⟩, r.t, _, 0, _, rfl, rfl, .of t1, atI_nat (j := 0) rfl, q⟩⟩
  ·refine ⟨y, rfl, .ref st, rfl, st, CS, dx, _, _, rfl, h1, L.cl, L.n3, stl3, y, tb, rfl, ?_⟩
   rcases out with ⟨z, rfl, hz⟩ | ⟨t, ht, hk⟩
   ·refine .inl ⟨z, rfl, .inr ⟨thkv ths, .inl h2, ?_⟩⟩
    rw [show valV (thkv ths) (Sum.inr z) = none from valV_out (f := fun r : TRow => r.nm) (g := fun r => V.ref r.t) hz]
    exact ⟨false, rfl, iteT ⟨.str z, rfl, by show 1 ≤ 1000; decide, bad_T q⟩⟩
   ·exact .inr ⟨t, ht, hk, false, rfl, iteT ⟨y, rfl, by show 1 ≤ 1000; decide, bad_T q⟩⟩
def spFieldsX (K : PySem.W.Frag) (CS CN CF : Addr) : Sp := fun vs H Q E => ∃ (N : Hp) (st x : Addr) (first : Str) (ths : List TRow) (y u : V), vs = [.ref st, y, u] ∧ StoAt CS N H st x first ths ∧ (ths.map (·.nm)).Nodup ∧
 ((∃ r ∈ ths, y = .str r.nm ∧ (r.vs.map (·.1)).Nodup ∧ ((∃ f ∈ r.vs, u = .str f.1 ∧ Q (.ref r.da) H) ∨ (OutT K H (r.vs.map (·.1)) u ∧ ∀ d H', Same H H' → H d = none → H' d = some (.xd [("field", u), ("base", .str r.kd)]) → E (.ref CF) (some d) H'))) ∨
  (OutT K H (ths.map (·.nm)) y ∧ ∀ d H', Same H H' → H d = none → H' d = some (.xd [("thing", y)]) → E (.ref CN) (some d) H'))
theorem ok_fieldsX {f f1 f2 f3 CS CN CF : Addr} {fd fd1 fd2 fd3 : FuncData} (F : Fun K "fields_with" "Store.fields_with" s_Store_fields_with f fd) (D_is_key : Df K mg "is_key" s_is_key f1 fd1 ["name", "table"]) (M_kind_of : Mt K CS "kind_of" "Store.kind_of" s_Store_kind_of f2 fd2 ["self", "thing"]) (G_kind_of : FnOk P w K mg base (L2N.CX P w) 3 f2 fd2 ["self", "thing"] (spKindX K CS CN))
  (NF : NoF K mg CF f3) (bF : Binds K fd3 ["self", "base", "field"] []) (G_NF : FnOk P w K mg base CX0 1 f3 fd3 ["self", "base", "field"] (spNF CF)) (T : Nms mg) (L : StT K CS) : FnOk P w K mg base (L2N.CX P w) 4 f fd ["self", "thing", "field"] (spFieldsX K CS CN CF) := by
 have G_is_key : FnOk P w K mg base CX0 1 f1 fd1 ["name", "table"] (spIsKey K) := ok_is_key D_is_key T
 refine okC F sc_Store_fields_with (fun vs H Q E h => ?_) (fun cdv A outer s H vs Q E hr h => ?_)
 ·obtain ⟨N, st, x, first, ths, y, u, rfl, _⟩ := h
  rfl
 ·obtain ⟨N, st, x, first, ths, y, u, rfl, S, nd, q⟩ := h
  have hu := hu_of hr
  refine ⟨_, (pss_cons (ps_set (i := 3) sc_Store_fields_with.nd rfl (.inl rfl) (pe_methX (pv 0) L.cl M_kind_of.m G_kind_of (hr.mono (by decide)) M_kind_of.b (fun σ => L2N.passAt (L2N.takes_of rfl rfl rfl rfl) σ) (pa_cons (pv 1) pa_nil)))
   (pss_cons (ps_set (i := 4) sc_Store_fields_with.nd rfl (.inl rfl) (pe_ix (ix_tupK K) (pe_dget hu (pe_fld (pv 0) rfl) (pv 1) (fun _ _ => rfl)) pe_int (fun _ _ => rfl)))
   (pss_cons (ps_if (pt_not (pt_val (pe_call G_is_key (hr.mono (by decide)) (by rfl) D_is_key.g D_is_key.F.kp D_is_key.b .nil pass0 (pa_cons (pv 2) (pa_cons (pv 4) pa_nil)))))
    (pss_one (L2N.ps_raise rfl (L2N.takes_of rfl rfl rfl rfl) (pmkN NF.T NF.iC NF.tI G_NF (hr.mono (by decide)) bF pass0 (by rfl) NF.g (pa_cons (pv 3) (pa_cons (pv 2) pa_nil)))))
    pss_nil)
   (pss_one (ps_ret (pv 4)))))), ?_⟩
  obtain ⟨dx, tb, h1, h2⟩ := S.o
  refine ⟨.ref st, rfl, st, dx, _, rfl, h1, stn (by decide +kernel) (by decide +kernel) (by decide +kernel), y, rfl, N, st, x, first, ths, y, rfl, S, nd, ?_⟩
  rcases q with ⟨r, mr, rfl, nf, q⟩ | ⟨out, q⟩
  ·obtain ⟨t1, t2⟩ := S.t r mr
   have hv := thkv_val nd mr
   refine .inl ⟨r, mr, rfl, ?_⟩
   refine ⟨.ref st, rfl, st, CS, dx, _, _, rfl, h1, L.cl, L.n3, stl3, .str r.nm, rfl, tb, _, rfl, .inl ⟨thkv ths, .inr r.nm, .inl h2, rfl, hv.symm⟩, r.t, _, 1, _, rfl, rfl, .of t1, atI_nat (j := 1) rfl, ?_⟩
   refine ⟨u, rfl, .ref r.da, rfl, u, r.da, rfl, ?_⟩
   rcases q with ⟨g, mg', rfl, q⟩ | ⟨out, q⟩
   ·refine .inl ⟨g.1, rfl, .inr ⟨vkv r.vs, .inl t2, ?_⟩⟩
    rw [vkv_val nf mg']
    exact ⟨true, rfl, iteF ⟨.ref r.da, rfl, q⟩⟩
   ·rcases out with ⟨z, rfl, hz⟩ | ⟨t, ht, hk⟩
    ·refine .inl ⟨z, rfl, .inr ⟨vkv r.vs, .inl t2, ?_⟩⟩
     rw [show valV (vkv r.vs) (Sum.inr z) = none from valV_out (f := fun f : Str × V × PyData => f.1) (g := fun f => f.2.1) hz]
     exact ⟨false, rfl, iteT ⟨.str r.kd, rfl, .str z, rfl, by show 2 ≤ 1000; decide, bad_F q⟩⟩
    ·exact .inr ⟨t, ht, hk, false, rfl, iteT ⟨.str r.kd, rfl, u, rfl, by show 2 ≤ 1000; decide, bad_F q⟩⟩
  ·exact .inr ⟨out, q⟩
def spValueX (K : PySem.W.Frag) (CS CN CF : Addr) : Sp := fun vs H Q E => ∃ (N : Hp) (st x : Addr) (first : Str) (ths : List TRow) (y u : V), vs = [.ref st, y, u] ∧ StoAt CS N H st x first ths ∧ Same N H ∧ (ths.map (·.nm)).Nodup ∧
 ((∃ r ∈ ths, y = .str r.nm ∧ (r.vs.map (·.1)).Nodup ∧ ((∃ f ∈ r.vs, u = .str f.1 ∧ ∀ v S H', Same H H' → VT H' 4 v f.2.2 S → S.Nodup → (∀ a ∈ S, H a = none) → Q v H') ∨ (OutT K H (r.vs.map (·.1)) u ∧ ∀ d H', Same H H' → H d = none → H' d = some (.xd [("field", u), ("base", .str r.kd)]) → E (.ref CF) (some d) H'))) ∨
  (OutT K H (ths.map (·.nm)) y ∧ ∀ d H', Same H H' → H d = none → H' d = some (.xd [("thing", y)]) → E (.ref CN) (some d) H'))
theorem ok_valueX {f f3 f4 CS CN CF : Addr} {fd fd3 fd4 : FuncData} (F : Fun K "value" "Store.value" s_Store_value f fd)
  (M_fields_with : Mt K CS "fields_with" "Store.fields_with" s_Store_fields_with f3 fd3 ["self", "thing", "field"]) (G_fields_with : FnOk P w K mg base (L2N.CX P w) 4 f3 fd3 ["self", "thing", "field"] (spFieldsX K CS CN CF)) (D_copied : Df K mg "copied" s_copied f4 fd4 ["value"]) (T : Nms mg) (L : StT K CS) : FnOk P w K mg base (L2N.CX P w) 6 f fd ["self", "thing", "field"] (spValueX K CS CN CF) := by
 have G_copied : FnOk P w K mg base CX0 5 f4 fd4 ["value"] (spcopiedT 4) := ok_copiedT D_copied T 4
 refine okC F sc_Store_value (fun vs H Q E h => ?_) (fun cdv A outer s H vs Q E hr h => ?_)
 ·obtain ⟨N, st, x, first, ths, y, u, rfl, _⟩ := h
  rfl
 ·obtain ⟨N, st, x, first, ths, y, u, rfl, S, sN, nd, q⟩ := h
  have hu := hu_of hr
  refine ⟨_, (pss_one (ps_ret (pe_call G_copied (hr.mono (by decide)) (by rfl) D_copied.g D_copied.F.kp D_copied.b .nil pass0 (pa_cons (pe_dget hu (pe_methX (pv 0) L.cl M_fields_with.m G_fields_with (hr.mono (by decide)) M_fields_with.b (fun σ => L2N.passAt (L2N.takes_of rfl rfl rfl rfl) σ) (pa_cons (pv 1) (pa_cons (pv 2) pa_nil))) (pv 2) (fun _ _ => rfl)) pa_nil)))), ?_⟩
  obtain ⟨dx, tb, h1, h2⟩ := S.o
  refine ⟨.ref st, rfl, st, dx, _, rfl, h1, stn (by decide +kernel) (by decide +kernel) (by decide +kernel), y, rfl, u, rfl, N, st, x, first, ths, y, u, rfl, S, nd, ?_⟩
  rcases q with ⟨r, mr, rfl, nf, ⟨g, mg', rfl, q⟩ | ⟨out, q⟩⟩ | ⟨out, q⟩
  ·obtain ⟨t1, t2⟩ := S.t r mr
   exact .inl ⟨r, mr, rfl, nf, .inl ⟨g, mg', rfl, .str g.1, rfl, r.da, _, rfl, .inl ⟨vkv r.vs, .inr g.1, .inl t2, rfl, (vkv_val nf mg').symm⟩, g.2.1, g.2.2, rfl, (S.v r mr g mg').same sN, q⟩⟩
  ·exact .inl ⟨r, mr, rfl, nf, .inr ⟨out, q⟩⟩
  ·exact .inr ⟨out, q⟩
end
end NW
namespace NW
open PySem PySem.Spec PyProof.Rows L2
abbrev SuiteT := Addr → Value → Option Addr → TS
def Ends.gone (i : Nat) (D : Ends) : Ends := { nx := fun t G => D.nx (t.set i none) G, rt := D.rt, bk := fun t G => D.bk (t.set i none) G, ct := fun t G => D.ct (t.set i none) G }
def wAm (K : PySem.W.Frag) (i : Nat) (out : WX) (D : Ends) : List (Value × SuiteT) → WX
 | [] => out
 | q :: r => fun cl d t G => ∃ yes, PySem.W.exmOne K cl q.1 = some yes ∧ (yes = true → ∀ a, G a = none → q.2 a cl d (Ends.gone i D) (t.set i (some (.ref a))) G) ∧ (yes = false → wAm K i out D r cl d t G)
inductive AsOk (X : Cx) (n : Str) : List ExceptHandler → List (Value × SuiteT) → Prop
 | nil : AsOk X n [] []
 | cons {y : Str} {q : Value × SuiteT} {b1 : Stmt} {bs : List Stmt} {p1 p2 : Pos} {hs : List ExceptHandler} {l : List (Value × SuiteT)} (named : Names X y q.1)
   (su : ∀ (a : Addr) (ob : Obj) (cl : Value) (d : Option Addr) (held : List (Addr × Obj)), L2N.Zn cl d ob → (∃ z, ob.data = .fields z) → PSs (X.suite a ((a, ob) :: held)) (b1 :: bs) (q.2 a cl d)) (rest : AsOk X n hs l) :
   AsOk X n (.ExceptHandler (some (.Name y p1)) (some n) (b1 :: bs) p2 :: hs) (q :: l)
section
variable {X : Cx} {n : Str} {i : Nat} {body : List Stmt} {g1 : ExceptHandler} {gs : List ExceptHandler} {l : List (Value × SuiteT)} {ps : Pos} {tb : WX → TS} {out : WX}
theorem ps_try_ams (st : X.stack = X.env :: X.outer) (fr : X.env.frame = some X.env.locals) (nd : X.N.Nodup) (at_ : X.N[i]? = some n) (lo : X.env.kindOf n = some .local) (tk : L2N.Takes X out)
  (hb : ∀ (W : WX) (held : List (Addr × Obj)) (xe : Value → Shared → Prop), L2N.Takes (X.tr held xe) W → PassesOwn (model X.prog X.w) X.A X.env xe → PSs (X.tr held xe) body (tb W))
  (hh : AsOk X n (g1 :: gs) l) : PS X (.Try body (g1 :: gs) [] [] ps) (fun D t G => tb (wAm X.K i out D l) D t G) := by
 refine ⟨fun pins s t G D I h => ?_⟩
 have ok := I.ok
 have fram : X.A.frames = some (X.env :: X.outer) := by rw [ok.frames, st]
 have islo : Loc X.env.scope n := .inl lo
 refine wpAny_Try_except ?_
 refine wpAny_mono ((hb (wAm X.K i out D l) (X.pn ++ pins) (fun e s₁ => wpAny (model X.prog X.w) X.A (noteFrame e X.env) (fun _ s₂ => wpAny (model X.prog X.w) X.A (setFlight e none) (fun _ s₃ => wpAny (model X.prog X.w) X.A (handleBy e X.env (g1 :: gs)) (SP X pins D) X.xe s₃) X.xe s₂) X.xe s₁) (fun u s' air => ?_) PassesOwn.looking).run [] s t G D (I.toTry _) h) (fun f s1 end1 => ?_) (fun e s1 z => z)
 ·obtain ⟨a, B, sI, pns, t', G', cl, d, rfl, J1, nb, up, sky, na, os, ag, ww⟩ := air
  have J : Inv X pins t' G' sI := J1.ofTry ok
  have sky' : Sky B (X.env :: X.outer) a (L2N.Zn cl d) X.env.locals s'.heap := by rw [← st]; exact sky
  show wpAny _ X.A (noteFrame (.ref a) X.env) _ _ _
  refine L2N.Sky.land L2N.Zn.steady fram fr sky' fun k3 fl3 up3 => ?_
  have J3 : Inv X pins t' G' { s' with heap := k3 } := J.landed nb fl3.1 (up.trans up3) os ag
  obtain ⟨ob3, z3, ge3, zn3, da3⟩ := fl3.there
  have nfr : a ∉ frs (X.env :: X.outer) := fun mem => by
   obtain ⟨_, o', ge', hnf⟩ := fl3.2.2.1.mem mem
   rw [ge3] at ge'
   cases ge'
   exact hnf _ da3
  have nL : a ≠ X.env.locals := fun z => nfr (List.mem_filterMap.mpr ⟨X.env, List.mem_cons_self, by rw [fr, z]⟩)
  have nF : a ∉ X.fs := fun mem => by
   obtain ⟨e, m, q⟩ := List.mem_filterMap.mp mem
   exact nfr (List.mem_filterMap.mpr ⟨e, List.mem_cons_of_mem _ m, q⟩)
  have S3 := J3.suite ge3 da3 na nL nF
  have walk : ∀ {hs2 : List ExceptHandler} {l2 : List (Value × SuiteT)}, AsOk X n hs2 l2 → wAm X.K i out D l2 cl d t' G' → wpAny (model X.prog X.w) X.A (handleBy (.ref a) X.env hs2) (SP X pins D) X.xe { s' with heap := k3 } := by
   intro hs2 l2 k
   induction k with
   | nil =>
    intro w2
    refine wpAny_handleBy_nil ?_
    obtain ⟨_, _, _, ob, z, T, oT, ts', ge, zn, da, h1, _⟩ := id fl3
    unfold PySem.passOn
    refine wpAny_bind (wpAny_field ge da h1 ?_)
    rw [if_neg (show ¬ ((Value.ref T == Value.none) = true) from by simp)]
    have over : wpAny (model X.prog X.w) X.A (setFlight (.ref a) X.env.frame) (fun _ s4 => wpAny (model X.prog X.w) X.A (throw (.ref a) : Sem Flow) (SP X pins D) X.xe s4) X.xe { s' with heap := k3 } := by
     rw [fr]
     refine HandSPX.setFlight_upZ fl3 fun h4 hh4 up4 => wpAny_throw (tk _ _ ?_)
     exact ⟨a, B, sI, pins, t', G', cl, d, rfl, J, nb, (up.trans up3).trans up4, .inr (.inr (by rw [st]; exact hh4)), na, os, ag, w2⟩
    first
     | exact wpAny_bind (wpAny_pure (wpAny_bind over))
     | exact wpAny_bind over
   | @cons y q b1 bs p1 p2 hs3 l3 named su rest ih =>
    intro w2
    obtain ⟨yes, is, y1, y0⟩ := w2
    refine wpAny_handleBy_cons (codeAny_handlers_test ?_) (by intro z; cases z)
    have LT : PySem.W.Looks (model X.prog X.w) k3 (typeOf (.ref a)) cl := fun A Q E s k z => wpAny_typeOf_ref (k _ _ ge3) (by rw [zn3.1]; exact z)
    have LM := PySem.W.exm_one (M := model X.prog X.w) J3.kIn LT is
    have tst : ∀ {Q E : Value → Shared → Prop}, Q q.1 { s' with heap := k3 } → wpAny (model X.prog X.w) (X.A.mark (some (.ref a))) (eval (.Name y p1) X.env) Q E { s' with heap := k3 } := fun {Q E} z => by
     obtain ⟨hg, dbg, hm | ⟨hm, hv, hn⟩⟩ := named
     ·exact ld_glob (X := X.suite a ((a, ob3) :: (X.pn ++ pins))) S3 hg hm z dbg
     ·exact ld_blt (X := X.suite a ((a, ob3) :: (X.pn ++ pins))) S3 hg hm hv z hn dbg
    refine tst (LM.here ?_)
    cases yes with
    | true =>
     refine codeAny_handlers_suite_as (HandSPX.lands_againZ fl3 fun k4 fl4 up4 => ?_)
     have J4 : Inv X pins t' G' { s' with heap := k4 } := J.landed nb fl4.1 ((up.trans up3).trans up4) os ag
     obtain ⟨ob4, z4, ge4, zn4, da4⟩ := fl4.there
     have S4 := J4.suite ge4 da4 na nL nF
     refine store_ok (X := X.suite a ((a, ob4) :: (X.pn ++ pins))) (v := .ref a) S4 nd at_ islo rfl (fun s5 S5 => ?_) (.inr lo)
     refine wpAny_mono ((su a ob4 cl d (X.pn ++ pins) zn4 ⟨_, da4⟩).run [] s5 _ G' _ S5 (y1 rfl a na)) (fun f s6 hsp => ?_) (fun _ _ z => z.elim)
     have unb : ∀ {t6 : L2.St} {G6 : Hp} {Q : Shared → Prop}, Inv (X.suite a ((a, ob4) :: (X.pn ++ pins))) [] t6 G6 s6 → (∀ s7, Inv X pins (t6.set i none) G6 s7 → Q s7) → wpAny (model X.prog X.w) X.A (do bindName X.env n .none; unbindBehindTheSuite X.env n p2) (fun _ s7 => Q s7) X.xe s6 := fun {t6 G6 Q} S6 hq => gone_ok (S6.unsuite ok) nd at_ lo hq
     cases f with
     | ret u => obtain ⟨v6, t6, G6, S6, r6, q6⟩ := hsp; exact unb S6 fun s7 J7 => ⟨_, _, _, J7, r6, q6⟩
     | next => obtain ⟨t6, G6, S6, q6⟩ := hsp; exact unb S6 fun s7 J7 => ⟨_, _, J7, q6⟩
     | brk => obtain ⟨t6, G6, S6, q6⟩ := hsp; exact unb S6 fun s7 J7 => ⟨_, _, J7, q6⟩
     | cont => obtain ⟨t6, G6, S6, q6⟩ := hsp; exact unb S6 fun s7 J7 => ⟨_, _, J7, q6⟩
    | false =>
     show wpAny _ X.A (handleBy (.ref a) X.env hs3) _ _ _
     exact ih (y0 rfl)
  exact walk hh ww
 ·cases f with
  | ret u => obtain ⟨v, t', G', J', r, q⟩ := end1; exact ⟨v, t', G', J'.ofTry ok, r, q⟩
  | next => obtain ⟨t', G', J', q⟩ := end1; exact wpAny_execs_nil ⟨t', G', J'.ofTry ok, q⟩
  | brk => obtain ⟨t', G', J', q⟩ := end1; exact ⟨t', G', J'.ofTry ok, q⟩
  | cont => obtain ⟨t', G', J', q⟩ := end1; exact ⟨t', G', J'.ofTry ok, q⟩
end
end NW
namespace NW
open PySem PySem.Spec PyProof.Rows L2
open TL (tl)
open StX (pa_star)
abbrev s_Lstrange : Stmt := topS 73
abbrev N_Lstrange : List Str := ["_law_box_here", "_law_menu"]
theorem sc_Lstrange : FnScope N_Lstrange ["_law_box_here"] (defScope s_Lstrange) := ⟨rfl, rfl, rfl, by decide +kernel, rfl, by decide +kernel, by decide +kernel⟩
inductive OdC (b : Addr) (H : Hp) : V → Prop
 | non : OdC b H .non
 | bl (x : Bool) : OdC b H (.bl x)
 | int (x : Int) : OdC b H (.int x)
 | str (x : Str) : OdC b H (.str x)
 | lst {a : Addr} {xs : List V} : H a = some (.lst xs) → a ≠ b → OdC b H (.ref a)
 | dic {a : Addr} {kvs : List (Key × V)} : H a = some (.dK kvs) → a ≠ b → OdC b H (.ref a)
 | tup {a : Addr} {pl : List Key} : H a = some (.tup (pl.map kV)) → pl.length ≤ 10 → a ≠ b → OdC b H (.ref a)
structure Odd (K : PySem.W.Frag) (b : Addr) (H : Hp) (v : V) : Prop where
 same : ∀ H', Gr b H H' → SameV 2 H' v v
 cls : OdC b H v
section
variable {K : PySem.W.Frag} {b r : Addr} {H H0 H' : Hp}
theorem OdC.gr {v : V} (o : OdC b H v) (g : Gr b H H') : OdC b H' v := by
 cases o with
 | non => exact .non
 | bl x => exact .bl x
 | int x => exact .int x
 | str x => exact .str x
 | lst h n => exact .lst (g _ _ n h) n
 | dic h n => exact .dic (g _ _ n h) n
 | tup h l n => exact .tup (g _ _ n h) l n
theorem Odd.gr {v : V} (o : Odd K b H v) (g : Gr b H H') : Odd K b H' v := ⟨fun H2 g2 => o.same H2 (g.trans g2), o.cls.gr g⟩
theorem Odd.non : Odd K b H .non := ⟨fun _ _ => .inl ⟨rfl, .inl rfl⟩, .non⟩
theorem Odd.bl {x : Bool} : Odd K b H (.bl x) := ⟨fun _ _ => .inl ⟨rfl, .inr (.inl ⟨x, rfl⟩)⟩, .bl x⟩
theorem Odd.int {x : Int} : Odd K b H (.int x) := ⟨fun _ _ => .inl ⟨rfl, .inr (.inr (.inl ⟨x, rfl⟩))⟩, .int x⟩
theorem Odd.str {x : Str} : Odd K b H (.str x) := ⟨fun _ _ => .inl ⟨rfl, .inr (.inr (.inr ⟨x, rfl⟩))⟩, .str x⟩
theorem same_sc {a : Addr} {xs : List V} (h : H a = some (.lst xs) ∨ H a = some (.tup xs)) (hs : ∀ x ∈ xs, Sc x) (hl : xs.length ≤ 1000) : SameV 1 H (.ref a) (.ref a) := by
 refine .inr (.inl ⟨a, a, xs, xs, rfl, rfl, ?_, rfl, hl, fun i u v e1 e2 => ?_⟩)
 ·rcases h with h | h
  ·exact .inl ⟨h, h⟩
  ·exact .inr ⟨h, h⟩
 ·rw [e1] at e2
  cases e2
  exact ⟨rfl, hs u (List.mem_of_getElem? e1)⟩
theorem sc_kV {pl : List Key} : ∀ x ∈ pl.map kV, Sc x := fun x h => by
 obtain ⟨k, _, rfl⟩ := List.mem_map.mp h
 cases k with
 | inl i => exact .inr (.inr (.inl ⟨i, rfl⟩))
 | inr z => exact .inr (.inr (.inr ⟨z, rfl⟩))
theorem Odd.tup {a : Addr} {pl : List Key} (h : H a = some (.tup (pl.map kV))) (n : a ≠ b) (hl : pl.length ≤ 10) : Odd K b H (.ref a) :=
 ⟨fun H' g => (same_sc (.inr (g _ _ n h)) sc_kV (by rw [List.length_map]; omega)).up, .tup h hl n⟩
theorem Odd.lst {a : Addr} {xs : List V} (h : H a = some (.lst xs)) (n : a ≠ b) (hs : ∀ x ∈ xs, Sc x) (hl : xs.length ≤ 1000) : Odd K b H (.ref a) :=
 ⟨fun H' g => (same_sc (.inl (g _ _ n h)) hs hl).up, .lst h n⟩
theorem Odd.lol {a c : Addr} (h : H a = some (.lst [.ref c])) (n : a ≠ b) (hc : H c = some (.lst [])) (nc : c ≠ b) : Odd K b H (.ref a) :=
 ⟨fun H' g => .inr (.inl ⟨a, a, _, _, rfl, rfl, .inl ⟨g _ _ n h, g _ _ n h⟩, rfl, by show 1 ≤ 1000; decide, fun i u v e1 e2 => by
  cases i with
  | zero =>
   cases e1
   cases e2
   exact same_sc (.inl (g _ _ nc hc)) (fun _ z => nomatch z) (Nat.zero_le _)
  | succ i => cases e1⟩), .lst h n⟩
theorem Odd.dict {a : Addr} {kvs : List (Key × V)} (h : H a = some (.dK kvs)) (n : a ≠ b) (hl : kvs.length ≤ 1000) (hn : (kvs.map (·.1)).Nodup) (hs : ∀ k v, (k, v) ∈ kvs → Sc v) : Odd K b H (.ref a) :=
 ⟨fun H' g => .inr (.inr ⟨a, a, kvs, kvs, rfl, rfl, List.not_mem_nil, List.not_mem_nil, g _ _ n h, g _ _ n h, rfl, hl, hn, fun k v m => ⟨v, valV_nd hn m, .inl ⟨rfl, hs k v m⟩⟩⟩), .dic h n⟩
structure Mn (K : PySem.W.Frag) (b r : Addr) (H0 H : Hp) (l : List V) : Prop where
 g : Gr b H0 H
 B : Box H b r
 o : ∀ v ∈ l, Odd K b H v
variable {l : List V} {p : Addr} {o : HO}
theorem Mn.add (m : Mn K b r H0 H l) (np : H p = none) : Mn K b r H0 (upd H p o) l := ⟨m.g.trans (Gr.new np), m.B.new np, fun v h => (m.o v h).gr (Gr.new np)⟩
theorem Mn.cons {v : V} (m : Mn K b r H0 H l) (hv : Odd K b H v) : Mn K b r H0 H (v :: l) := ⟨m.g, m.B, fun u h => by
 rcases List.mem_cons.mp h with rfl | h
 ·exact hv
 ·exact m.o u h⟩
theorem Mn.tup {pl : List Key} (m : Mn K b r H0 H l) (np : H p = none) (hl : pl.length ≤ 10) : Mn K b r H0 (upd H p (.tup (pl.map kV))) (.ref p :: l) := (m.add np).cons (.tup upd_same (m.B.neb np) hl)
theorem Mn.lst {xs : List V} (m : Mn K b r H0 H l) (np : H p = none) (hs : ∀ x ∈ xs, Sc x) (hl : xs.length ≤ 1000) : Mn K b r H0 (upd H p (.lst xs)) (.ref p :: l) := (m.add np).cons (.lst upd_same (m.B.neb np) hs hl)
theorem Mn.lol {c : Addr} (m : Mn K b r H0 H l) (np : H p = none) (hc : H c = some (.lst [])) (nc : c ≠ b) : Mn K b r H0 (upd H p (.lst [.ref c])) (.ref p :: l) :=
 (m.add np).cons (.lol upd_same (m.B.neb np) (by rw [upd_ne (ne_of_none hc np)]; exact hc) nc)
theorem Mn.dict {kvs : List (Key × V)} (m : Mn K b r H0 H l) (np : H p = none) (hl : kvs.length ≤ 1000) (hn : (kvs.map (·.1)).Nodup) (hs : ∀ k v, (k, v) ∈ kvs → Sc v) : Mn K b r H0 (upd H p (.dK kvs)) (.ref p :: l) := (m.add np).cons (.dict upd_same (m.B.neb np) hl hn hs)
theorem upd_twice {u : HO} : upd (upd H p u) p o = upd H p o := by
 funext a
 by_cases e : a = p
 ·subst e
  rw [upd_same, upd_same]
 ·rw [upd_ne e, upd_ne e, upd_ne e]
theorem sc1 {z : Str} : ∀ x ∈ [V.str z], Sc x := fun x h => by
 cases List.mem_singleton.mp h
 exact .inr (.inr (.inr ⟨z, rfl⟩))
theorem sc0 : ∀ x ∈ ([] : List V), Sc x := fun _ z => nomatch z
end
section
variable {P : Program} {w : World} {K : PySem.W.Frag} {mg : Str → Option Value} {base : Heap}
def spLstrange (K : PySem.W.Frag) : Sp := fun vs H Q _ => ∃ (b r : Addr), vs = [.ref b] ∧ Box H b r ∧ ∀ v H', Odd K b H' v → Gr b H H' → Box H' b r → Q v H'
theorem ok_Lstrange {f f1 : Addr} {fd fd1 : FuncData} (D : Df K mg "_law_strange" s_Lstrange f fd ["_law_box_here"]) (D_Ldraw : Df K mg "_law_draw" s_Ldraw f1 fd1 ["_law_box_here", "_law_many"]) (T : Nms mg) : FnOk P w K mg base CX0 2 f fd ["_law_box_here"] (spLstrange K) := by
 have G_Ldraw : FnOk P w K mg base CX0 1 f1 fd1 ["_law_box_here", "_law_many"] spLdraw := ok_Ldraw D_Ldraw T
 refine D.F.ok sc_Lstrange (fun vs H Q E h => ?_) (fun cdv A outer s H vs Q E hr h => ?_)
 ·obtain ⟨b, r, rfl, _⟩ := h
  rfl
 ·obtain ⟨b, r, rfl, B, q⟩ := h
  refine ⟨_, (pss_cons (ps_set (i := 1) sc_Lstrange.nd rfl (.inl rfl) (pe_lst (pa_cons pe_non (pa_cons pe_bl (pa_cons pe_bl (pa_cons pe_int (pa_cons pe_int (pa_cons pe_int (pa_cons (pe_un un_neg pe_int) (pa_cons (pe_op op_pow pe_int pe_int) (pa_cons pe_str (pa_cons pe_str (pa_cons pe_str (pa_cons pe_str (pa_cons pe_str (pa_cons pe_str pa_nil))))))))))))))))
   (pss_cons (ps_set (i := 1) sc_Lstrange.nd rfl (.inl rfl) (pe_op op_cat (pv 1) (pe_lst (pa_cons pe_str (pa_cons pe_str (pa_cons (pe_tup pa_nil) (pa_cons (pe_tup (pa_cons pe_str pa_nil)) (pa_cons (pe_lst pa_nil) (pa_cons (pe_lst (pa_cons pe_str pa_nil)) (pa_cons (pe_lst (pa_cons (pe_lst pa_nil) pa_nil)) (pa_cons pe_dnewK (pa_cons (pe_disp (pps_cons pe_str pe_int pps_nil) (by rfl) (by rfl) (fun z => by cases z) (by decide)) (pa_cons (pe_tup (pa_cons pe_str pa_nil)) (pa_cons (pe_tup (pa_cons pe_str pa_nil)) pa_nil))))))))))))))
   (pss_cons (ps_set (i := 1) sc_Lstrange.nd rfl (.inl rfl) (pe_op op_cat (pv 1) (pe_lst (pa_cons (pe_tup (pa_cons pe_str (pa_cons pe_str pa_nil))) (pa_cons pe_str pa_nil)))))
   (pss_one (ps_ret (pe_ix ix_list (pv 1) (pe_call G_Ldraw (hr.mono (by decide)) (by rfl) D_Ldraw.g D_Ldraw.F.kp D_Ldraw.b .nil pass0 (pa_cons (pv 0) (pa_cons (pe_callB call_len_seq (by rfl) T.n_len (by decide +kernel) (pa_cons (pv 1) pa_nil)) pa_nil))) (fun _ _ => rfl))))))), ?_⟩
  have hS : ∀ n : Nat, n ≤ 1000 → n ≤ sizeLine := fun n h => Nat.le_trans h (by decide)
  have m : Mn K b r H H [] := ⟨Gr.refl, B, fun _ z => nomatch z⟩
  refine ⟨1, rfl, 10, 40, rfl, rfl, ⟨by decide, by decide, by decide⟩, hS 14 (by decide), fun p1 n1 => ?_⟩
  have m1 : Mn K b r H (upd H p1 (.lst [.non, .bl true, .bl false, .int 0, .int 1, .int 7, .int (-1), .int (10 ^ (40 : Int).toNat), .str "", .str "Ab", .str "a b", .str "abcdefghi", .str "a1", .str "aB"])) [] := m.add n1
  have m0 : Mn K b r (upd H p1 (.lst [.non, .bl true, .bl false, .int 0, .int 1, .int 7, .int (-1), .int (10 ^ (40 : Int).toNat), .str "", .str "Ab", .str "a b", .str "abcdefghi", .str "a1", .str "aB"])) (upd H p1 (.lst [.non, .bl true, .bl false, .int 0, .int 1, .int 7, .int (-1), .int (10 ^ (40 : Int).toNat), .str "", .str "Ab", .str "a b", .str "abcdefghi", .str "a1", .str "aB"])) [] := ⟨Gr.refl, m1.B, fun _ z => nomatch z⟩
  have nb1 := B.neb n1
  refine ⟨.ref p1, rfl, hS 0 (by decide), fun q1 k1 => ⟨hS 1 (by decide), fun q2 k2 => ⟨hS 0 (by decide), fun q3 k3 => ⟨hS 1 (by decide), fun q4 k4 => ⟨hS 0 (by decide), fun q5 k5 => ⟨hS 1 (by decide), fun q6 k6 => fun q7 k7 => fun q8 k8 => ⟨upd_same, [(.inr "a", .int 1)], rfl, by show 1 ≤ 15; decide, ?_⟩⟩⟩⟩⟩⟩⟩
  rw [upd_twice]
  refine ⟨hS 1 (by decide), fun q9 k9 => ⟨hS 1 (by decide), fun q10 k10 => ⟨hS 11 (by decide), fun p2 n2 => ?_⟩⟩⟩
  have m2 := m0.tup (pl := []) k1 (by decide)
  have m3 := m2.tup (pl := [.inr "a"]) k2 (by show 1 ≤ 10; decide)
  have m4 := m3.lst (xs := []) k3 sc0 (by decide)
  have m5 := m4.lst (xs := [.str "a"]) k4 sc1 (by show 1 ≤ 1000; decide)
  have m6 := m5.lst (xs := []) k5 sc0 (by decide)
  have m7 := m6.lol (c := q5) k6 upd_same (m5.B.neb k5)
  have m8 := m7.dict (kvs := []) k7 (by decide) List.nodup_nil (fun _ _ z => nomatch z)
  have m9 := m8.dict (kvs := mergeK [] [(.inr "a", .int 1)]) k8 (by show 1 ≤ 1000; decide) (by show [(Sum.inr "a" : Key)].Nodup; exact List.pairwise_singleton ..) (fun k v h => by
   cases List.mem_singleton.mp (show (k, v) ∈ [((Sum.inr "a" : Key), V.int 1)] from h)
   exact .inr (.inr (.inl ⟨1, rfl⟩)))
  have m10 := m9.tup (pl := [.inr "list"]) k9 (by show 1 ≤ 10; decide)
  have m11 := m10.tup (pl := [.inr "fail"]) k10 (by show 1 ≤ 10; decide)
  have m12 := m11.add (o := .lst [.str " a", .str "a\n", .ref q1, .ref q2, .ref q3, .ref q4, .ref q6, .ref q7, .ref q8, .ref q9, .ref q10]) n2
  have e1 := m12.g p1 (.lst [.non, .bl true, .bl false, .int 0, .int 1, .int 7, .int (-1), .int (10 ^ (40 : Int).toNat), .str "", .str "Ab", .str "a b", .str "abcdefghi", .str "a1", .str "aB"]) nb1 upd_same
  refine ⟨p1, p2, [.non, .bl true, .bl false, .int 0, .int 1, .int 7, .int (-1), .int (10 ^ (40 : Int).toNat), .str "", .str "Ab", .str "a b", .str "abcdefghi", .str "a1", .str "aB"], [.str " a", .str "a\n", .ref q1, .ref q2, .ref q3, .ref q4, .ref q6, .ref q7, .ref q8, .ref q9, .ref q10], rfl, rfl, e1, upd_same, hS 25 (by decide), fun p3 n3 => ?_⟩
  have m13 := m12.add (o := .lst ([.non, .bl true, .bl false, .int 0, .int 1, .int 7, .int (-1), .int (10 ^ (40 : Int).toNat), .str "", .str "Ab", .str "a b", .str "abcdefghi", .str "a1", .str "aB"] ++ [.str " a", .str "a\n", .ref q1, .ref q2, .ref q3, .ref q4, .ref q6, .ref q7, .ref q8, .ref q9, .ref q10])) n3
  have n3b := m12.B.neb n3
  refine ⟨.ref p3, rfl, hS 2 (by decide), fun q11 k11 => ⟨hS 2 (by decide), fun p4 n4 => ?_⟩⟩
  have m14 := m13.tup (pl := [.inr "fail", .inr "fail"]) k11 (by show 2 ≤ 10; decide)
  have m15 := m14.add (o := .lst [.ref q11, .str "fail1"]) n4
  have e3 : (upd (upd (upd _ p3 (.lst ([.non, .bl true, .bl false, .int 0, .int 1, .int 7, .int (-1), .int (10 ^ (40 : Int).toNat), .str "", .str "Ab", .str "a b", .str "abcdefghi", .str "a1", .str "aB"] ++ [.str " a", .str "a\n", .ref q1, .ref q2, .ref q3, .ref q4, .ref q6, .ref q7, .ref q8, .ref q9, .ref q10]))) q11 (.tup [.str "fail", .str "fail"])) p4 (.lst [.ref q11, .str "fail1"])) p3 = some (.lst ([.non, .bl true, .bl false, .int 0, .int 1, .int 7, .int (-1), .int (10 ^ (40 : Int).toNat), .str "", .str "Ab", .str "a b", .str "abcdefghi", .str "a1", .str "aB"] ++ [.str " a", .str "a\n", .ref q1, .ref q2, .ref q3, .ref q4, .ref q6, .ref q7, .ref q8, .ref q9, .ref q10])) := ((Gr.new (b := b) k11).trans (Gr.new n4)) _ _ n3b upd_same
  refine ⟨p3, p4, [.non, .bl true, .bl false, .int 0, .int 1, .int 7, .int (-1), .int (10 ^ (40 : Int).toNat), .str "", .str "Ab", .str "a b", .str "abcdefghi", .str "a1", .str "aB"] ++ [.str " a", .str "a\n", .ref q1, .ref q2, .ref q3, .ref q4, .ref q6, .ref q7, .ref q8, .ref q9, .ref q10], [.ref q11, .str "fail1"], rfl, rfl, e3, upd_same, hS _ (by show 27 ≤ 1000; decide), fun p5 n5 => ?_⟩
  have m := m15.add (o := .lst ([.non, .bl true, .bl false, .int 0, .int 1, .int 7, .int (-1), .int (10 ^ (40 : Int).toNat), .str "", .str "Ab", .str "a b", .str "abcdefghi", .str "a1", .str "aB"] ++ [.str " a", .str "a\n", .ref q1, .ref q2, .ref q3, .ref q4, .ref q6, .ref q7, .ref q8, .ref q9, .ref q10] ++ [.ref q11, .str "fail1"])) n5
  have n5b := m15.B.neb n5
  have all : ∀ v ∈ ([.non, .bl true, .bl false, .int 0, .int 1, .int 7, .int (-1), .int (10 ^ (40 : Int).toNat), .str "", .str "Ab", .str "a b", .str "abcdefghi", .str "a1", .str "aB"] ++ [.str " a", .str "a\n", .ref q1, .ref q2, .ref q3, .ref q4, .ref q6, .ref q7, .ref q8, .ref q9, .ref q10] ++ [.ref q11, .str "fail1"] : List V), Odd K b _ v := (List.forall_mem_cons.mpr ⟨Odd.non, (List.forall_mem_cons.mpr ⟨Odd.bl, (List.forall_mem_cons.mpr ⟨Odd.bl, (List.forall_mem_cons.mpr ⟨Odd.int, (List.forall_mem_cons.mpr ⟨Odd.int, (List.forall_mem_cons.mpr ⟨Odd.int, (List.forall_mem_cons.mpr ⟨Odd.int, (List.forall_mem_cons.mpr ⟨Odd.int, (List.forall_mem_cons.mpr ⟨Odd.str, (List.forall_mem_cons.mpr ⟨Odd.str, (List.forall_mem_cons.mpr ⟨Odd.str, (List.forall_mem_cons.mpr ⟨Odd.str, (List.forall_mem_cons.mpr ⟨Odd.str, (List.forall_mem_cons.mpr ⟨Odd.str, (List.forall_mem_cons.mpr ⟨Odd.str, (List.forall_mem_cons.mpr ⟨Odd.str, (List.forall_mem_cons.mpr ⟨(m.o _ (by simp)), (List.forall_mem_cons.mpr ⟨(m.o _ (by simp)), (List.forall_mem_cons.mpr ⟨(m.o _ (by simp)), (List.forall_mem_cons.mpr ⟨(m.o _ (by simp)), (List.forall_mem_cons.mpr ⟨(m.o _ (by simp)), (List.forall_mem_cons.mpr ⟨(m.o _ (by simp)), (List.forall_mem_cons.mpr ⟨(m.o _ (by simp)), (List.forall_mem_cons.mpr ⟨(m.o _ (by simp)), (List.forall_mem_cons.mpr ⟨(m.o _ (by simp)), (List.forall_mem_cons.mpr ⟨(m.o _ (by simp)), (List.forall_mem_cons.mpr ⟨Odd.str, (fun _ z => nomatch z)⟩)⟩)⟩)⟩)⟩)⟩)⟩)⟩)⟩)⟩)⟩)⟩)⟩)⟩)⟩)⟩)⟩)⟩)⟩)⟩)⟩)⟩)⟩)⟩)⟩)⟩)⟩)
  have g1 := (Gr.new (b := b) n1).trans m.g
  refine ⟨.ref p5, rfl, .ref _, rfl, .ref p5, rfl, p5, _, rfl, .inl (SqL.of upd_same), b, r, 27, rfl, m.B, by decide, by decide, fun d H1 d0 d1 g2 B1 => ?_⟩
  obtain ⟨d, rfl⟩ := Int.eq_ofNat_of_zero_le d0
  have hd : d < ([.non, .bl true, .bl false, .int 0, .int 1, .int 7, .int (-1), .int (10 ^ (40 : Int).toNat), .str "", .str "Ab", .str "a b", .str "abcdefghi", .str "a1", .str "aB"] ++ [.str " a", .str "a\n", .ref q1, .ref q2, .ref q3, .ref q4, .ref q6, .ref q7, .ref q8, .ref q9, .ref q10] ++ [.ref q11, .str "fail1"] : List V).length := by
   show d < 27
   omega
  refine ⟨p5, _, d, ([.non, .bl true, .bl false, .int 0, .int 1, .int 7, .int (-1), .int (10 ^ (40 : Int).toNat), .str "", .str "Ab", .str "a b", .str "abcdefghi", .str "a1", .str "aB"] ++ [.str " a", .str "a\n", .ref q1, .ref q2, .ref q3, .ref q4, .ref q6, .ref q7, .ref q8, .ref q9, .ref q10] ++ [.ref q11, .str "fail1"] : List V)[d], rfl, rfl, SqL.of (g2 _ _ n5b upd_same), atI_nat (List.getElem?_eq_getElem hd), ?_⟩
  exact q _ H1 ((all _ (List.getElem_mem hd)).gr g2) (g1.trans g2) B1
end
end NW
namespace NW
open PySem PySem.Spec PyProof.Rows L2
open TL (tl)
open StX (pa_star)

abbrev s_Lmissing : Stmt := topS 76
abbrev N_Lmissing : List Str := ["_law_store", "_law_thing", "_law_field", "e"]
theorem sc_Lmissing : FnScope N_Lmissing ["_law_store", "_law_thing", "_law_field"] (defScope s_Lmissing) := ⟨rfl, rfl, rfl, by decide +kernel, rfl, by decide +kernel, by decide +kernel⟩
theorem takesA {X : Cx} : L2N.Takes X (fun _ _ _ _ => False) := fun _ _ x => by
 obtain ⟨_, _, _, _, _, _, _, _, _, _, _, _, _, _, _, _, z⟩ := x
 exact z.elim
theorem OdC.ty {K : PySem.W.Frag} {b : Addr} {H : Hp} {v : V} (o : OdC b H v) : (∃ z, v = .str z) ∨ ∃ t, (∀ H', Gr b H H' → TyX K H' v t) ∧ PySem.W.kitOne K t (.type "str") = some false := by
 cases o with
 | non => exact .inr ⟨_, fun _ _ => .base .non, kit_ty (by decide +kernel)⟩
 | bl x => exact .inr ⟨_, fun _ _ => .base (.bl x), kit_ty (by decide +kernel)⟩
 | int x => exact .inr ⟨_, fun _ _ => .base (.int x), kit_ty (by decide +kernel)⟩
 | str x => exact .inl ⟨x, rfl⟩
 | lst h n => exact .inr ⟨_, fun H' g => .base (.lst (g _ _ n h)), kit_ty (by decide +kernel)⟩
 | dic h n => exact .inr ⟨_, fun H' g => .base (.dK (g _ _ n h)), kit_ty (by decide +kernel)⟩
 | tup h l n => exact .inr ⟨_, fun H' g => .base (.tup (g _ _ n h)), kit_ty (by decide +kernel)⟩
def NewT (H : Hp) (xs : List V) (Q : VK) : Prop := ∀ (p : Addr) (H' : Hp), Same H H' → H p = none → H' p = some (.tup xs) → Q (.ref p) H'
section
variable {P : Program} {w : World} {K : PySem.W.Frag} {mg : Str → Option Value} {base : Heap}
def spLmissing (K : PySem.W.Frag) (CS : Addr) : Sp := fun vs H Q _ => ∃ (N : Hp) (st x : Addr) (first : Str) (ths : List TRow) (y u : V), vs = [.ref st, y, u] ∧ StoAt CS N H st x first ths ∧ Same N H ∧ (ths.map (·.nm)).Nodup ∧
 ((∃ r ∈ ths, y = .str r.nm ∧ (r.vs.map (·.1)).Nodup ∧ ((u = .non ∧ NewT H [.str "given", .str r.kd] Q) ∨
   (∃ f ∈ r.vs, u = .str f.1 ∧ ∀ p v H', Same H H' → H p = none → H' p = some (.tup [.str "given", v]) → VA H' 4 v f.2.2 → Q (.ref p) H') ∨
   (u ≠ .non ∧ OutT K H (r.vs.map (·.1)) u ∧ NewT H [.str "field", .str r.kd, u] Q))) ∨
  (OutT K H (ths.map (·.nm)) y ∧ NewT H [.str "thing", y] Q))
theorem ok_Lmissing {f f1 f2 CS CN CF : Addr} {fd fd1 fd2 : FuncData} (D : Df K mg "_law_missing" s_Lmissing f fd ["_law_store", "_law_thing", "_law_field"])
  (M_kind_of : Mt K CS "kind_of" "Store.kind_of" s_Store_kind_of f1 fd1 ["self", "thing"]) (G_kind_of : FnOk P w K mg base (L2N.CX P w) 3 f1 fd1 ["self", "thing"] (spKindX K CS CN))
  (M_value : Mt K CS "value" "Store.value" s_Store_value f2 fd2 ["self", "thing", "field"]) (G_value : FnOk P w K mg base (L2N.CX P w) 6 f2 fd2 ["self", "thing", "field"] (spValueX K CS CN CF))
  (L : StT K CS) (gN : mg "NoThing" = some (.ref CN)) (gF : mg "NoField" = some (.ref CF)) (XN : XfC K CN) (XF : XfC K CF)
  (nt : PySem.W.findIn K (.ref CN) "thing" = some none) (fb : PySem.W.findIn K (.ref CF) "base" = some none) (ff : PySem.W.findIn K (.ref CF) "field" = some none)
  (eNN : PySem.W.exmOne K (.ref CN) (.ref CN) = some true) (eFN : PySem.W.exmOne K (.ref CF) (.ref CN) = some false) (eFF : PySem.W.exmOne K (.ref CF) (.ref CF) = some true) :
  FnOk P w K mg base CX0 7 f fd ["_law_store", "_law_thing", "_law_field"] (spLmissing K CS) := by
 refine D.F.ok sc_Lmissing (fun vs H Q E h => ?_) (fun cdv A outer s H vs Q E hr h => ?_)
 ·obtain ⟨N, st, x, first, ths, y, u, rfl, _⟩ := h
  rfl
 ·obtain ⟨N, st, x, first, ths, y, u, rfl, S, sN, nd, q⟩ := h
  refine ⟨_, (pss_one (ps_try_ams (i := 3) rfl rfl sc_Lmissing.nd rfl rfl takesA
   (fun W pn xe tk _ => (pss_cons (ps_if (pt_cmpR op_isN (pv 2) pe_non (nomark _))
     (pss_one (ps_ret (pe_tup (pa_cons pe_str (pa_cons (pe_methX (pv 0) L.cl M_kind_of.m G_kind_of (hr.mono (by decide)) M_kind_of.b (fun σ => L2N.passAt tk σ) (pa_cons (pv 1) pa_nil)) pa_nil)))))
     pss_nil)
    (pss_one (ps_ret (pe_tup (pa_cons pe_str (pa_cons (pe_methX (pv 0) L.cl M_value.m G_value (hr.mono (by decide)) M_value.b (fun σ => L2N.passAt tk σ) (pa_cons (pv 1) (pa_cons (pv 2) pa_nil))) pa_nil)))))))
   (.cons (q := (.ref CN, fun a cls d => _)) ⟨rfl, by decide, .inl gN⟩ (fun a oe cls d pn hz hf => (pss_one (ps_ret (pe_tup (pa_cons pe_str (pa_cons (pe_xf XN nt hz.zc hf (pv 3)) pa_nil))))))
   (.cons (q := (.ref CF, fun a cls d => _)) ⟨rfl, by decide, .inl gF⟩ (fun a oe cls d pn hz hf => (pss_one (ps_ret (pe_tup (pa_cons pe_str (pa_cons (pe_xf XF fb hz.zc hf (pv 3)) (pa_cons (pe_xf XF ff hz.zc hf (pv 3)) pa_nil)))))))
   .nil)))), ?_⟩
  obtain ⟨dx, tb, h1, h2⟩ := S.o
  have fin : ∀ {H1 : Hp} {xs : List V} {Q1 : VK}, NewT H xs Q1 → Same H H1 → ∀ p, H1 p = none → Q1 (.ref p) (upd H1 p (.tup xs)) := fun k s1 p np => k p _ (s1.trans (same_new np)) (s1.free np) upd_same
  have hS : ∀ k : Nat, k ≤ 1000 → k ≤ sizeLine := fun k h => Nat.le_trans h (by decide)
  by_cases hu : u = .non
  ·subst hu
   refine ⟨.non, rfl, rfl, true, rfl, iteT ⟨.ref st, rfl, st, dx, _, rfl, h1, stn (by decide +kernel) (by decide +kernel) (by decide +kernel), y, rfl, N, st, x, first, ths, y, rfl, S, nd, ?_⟩⟩
   rcases q with ⟨r, mr, rfl, nf, ⟨_, q⟩ | ⟨f, _, z, _⟩ | ⟨z, _⟩⟩ | ⟨out, q⟩
   ·exact .inl ⟨r, mr, rfl, hS 2 (by decide), fin q (Same.refl _)⟩
   ·cases z
   ·exact absurd rfl z
   ·exact .inr ⟨out, fun d H' s1 ndd ed => ⟨true, eNN, fun _ e ne => ⟨.ref e, rfl, rfl, rfl, d, _, _, rfl, ed, rfl, hS 2 (by decide), fin q s1⟩, fun z => nomatch z⟩⟩
  ·refine ⟨u, rfl, rfl, false, ?_, iteF ⟨.ref st, rfl, st, dx, _, rfl, h1, stn (by decide +kernel) (by decide +kernel) (by decide +kernel), y, rfl, u, rfl, N, st, x, first, ths, y, u, rfl, S, sN, nd, ?_⟩⟩
   ·show V.bl (decide (u = .non)) = V.bl false
    rw [decide_eq_false hu]
   rcases q with ⟨r, mr, rfl, nf, ⟨z, q⟩ | ⟨f, mf, rfl, q⟩ | ⟨_, out, q⟩⟩ | ⟨out, q⟩
   ·exact absurd z hu
   ·exact .inl ⟨r, mr, rfl, nf, .inl ⟨f, mf, rfl, fun v S' H' s1 vt _ _ => ⟨hS 2 (by decide), fun p np => q p v _ (s1.trans (same_new np)) (s1.free np) upd_same (vt.va.same (same_new np))⟩⟩⟩
   ·exact .inl ⟨r, mr, rfl, nf, .inr ⟨out, fun d H' s1 ndd ed => ⟨false, eFN, (fun z => nomatch z), fun _ => ⟨true, eFF, fun _ e ne => ⟨.ref e, rfl, rfl, rfl, d, _, _, rfl, ed, rfl, .ref e, rfl, rfl, rfl, d, _, _, rfl, ed, rfl, hS 3 (by decide), fin q s1⟩, fun z => nomatch z⟩⟩⟩⟩
   ·exact .inr ⟨out, fun d H' s1 ndd ed => ⟨true, eNN, fun _ e ne => ⟨.ref e, rfl, rfl, rfl, d, _, _, rfl, ed, rfl, hS 2 (by decide), fin q s1⟩, fun z => nomatch z⟩⟩
end
end NW
namespace NW
open PySem PySem.Spec PyProof.Rows L2
open TL (tl)
open StX (pa_star)
theorem at_len {α : Type} {l m : List α} (h : m.length = l.length) {i : Nat} {a : α} (e : l[i]? = some a) : ∃ b, m[i]? = some b := by
 have hi := (List.getElem?_eq_some_iff.mp e).1
 exact ⟨m[i]'(by omega), List.getElem?_eq_getElem _⟩
theorem map_rel {α β : Type} {f : α → β} {l m : List α} (hl : m.length = l.length) (h : ∀ (i : Nat) a b, l[i]? = some a → m[i]? = some b → f b = f a) : m.map f = l.map f := by
 refine List.ext_getElem? fun i => ?_
 rw [List.getElem?_map, List.getElem?_map]
 cases e : l[i]? with
 | none =>
  have : m[i]? = none := by
   rw [List.getElem?_eq_none_iff] at e ⊢
   omega
  rw [this]
 | some a =>
  obtain ⟨b, eb⟩ := at_len hl e
  rw [eb]
  exact congrArg some (h i a b e eb)
theorem RelK.names' {ks ks' : List KRow} (h : RelK ks ks') : ks'.map (·.nm) = ks.map (·.nm) := map_rel h.1 fun i a b ea eb => (h.2 i a b ea eb).1
theorem RelF.names' {fs fs' : List FRow} (h : RelF fs fs') : fs'.map (·.nm) = fs.map (·.nm) := map_rel h.1 fun i a b ea eb => (h.2 i a b ea eb).1
theorem RelU.names' {us us' : List URow} (h : RelU us us') : us'.map (·.nm) = us.map (·.nm) := map_rel h.1 fun i a b ea eb => (h.2 i a b ea eb).1
end NW
namespace NW
open PySem PySem.Spec PyProof.Rows L2
def EqTD (K : PySem.W.Frag) (H : Hp) (F : V → V → Prop) (x y : V) : Prop :=
 (∃ a b xs ys, x = .ref a ∧ y = .ref b ∧ H a = some (.tup xs) ∧ H b = some (.tup ys) ∧ Paired F xs ys) ∨
  ∃ a b kvs lvs, x = .ref a ∧ y = .ref b ∧ H a = some (.dK kvs) ∧ H b = some (.dK lvs) ∧ kvs.length = lvs.length ∧ ∀ kv ∈ kvs, ∃ u, valV lvs kv.1 = some u ∧ F kv.2 u
def EqW (K : PySem.W.Frag) (H : Hp) : Nat → V → V → Prop
 | 0, _, _ => False
 | n + 1, x, y => (x = y ∧ flatB x = true) ∨ EqTD K H (EqW K H n) x y
section
variable {X : Cx} {pins : List (Addr × Obj)} {σ : L2.St} {H : Hp} {s : Shared}
theorem eqTD_run (I : Inv X pins σ H s) {A : Around} {F : V → V → Prop} (hu : A.units < cLine) (ih : ∀ x y v u, F x y → RelV x v → RelV y u → SeqAt.EqP X.prog X.w A.in1 s v u true) {x y : V} {v u : Value} (h : EqTD X.K H F x y) (rx : RelV x v) (ry : RelV y u)
  (E Q : Value → Shared → Prop) (q : Q (.bool true) s) : wpAny (model X.prog X.w) A (richCompare .Eq v u) Q E s := by
 rcases h with ⟨a, b, xs, ys, rfl, rfl, ha, hb, hp⟩ | ⟨a, b, kvs, lvs, rfl, rfl, ha, hb, hl, hp⟩
 ·obtain rfl : v = Value.ref a := rx
  obtain rfl : u = Value.ref b := ry
  obtain ⟨its, r1, t1, _⟩ := I.tuple (a := a) (xs := xs) (.inl (.inl ha))
  obtain ⟨jts, r2, t2, _⟩ := I.tuple (a := b) (xs := ys) (.inl (.inl hb))
  have hsz : its.toArray.size = jts.toArray.size := by
   rw [List.size_toArray, List.size_toArray, ← Vals.length r1, ← Vals.length r2]
   exact Paired.length hp
  refine GQ.rc_tupG hsz hu (fun _ s' => s' = s) t1 t2 (fun i h1 h2 s' e => ?_) (fun s' e => ?_) rfl
  ·subst e
   have k := items_run ih hp r1 r2 i (by simpa using h1) (by simpa using h2)
   exact k _ _ ⟨by simp, rfl⟩
  ·subst e
   exact q
 ·obtain rfl : v = Value.ref a := rx
  obtain rfl : u = Value.ref b := ry
  obtain ⟨_, la, va, ra, da⟩ := (show ObjOk X.prog X.w H s.heap a (.dK kvs) from I.hok a _ ha)
  obtain ⟨_, lb, vb, rb, db⟩ := (show ObjOk X.prog X.w H s.heap b (.dK lvs) from I.hok b _ hb)
  have hits := hits_run ih rb ra hp
  have hlen : (va.length == vb.length) = true := by
   rw [beq_iff_eq, ← ra.length, ← rb.length]
   exact hl
  exact PySem.W.rcP_dicts (knd := mixKind X.prog X.w) la lb da db hu (fun _ => hits) E Q (by rw [hlen]; exact q)
theorem eqW_run (I : Inv X pins σ H s) : ∀ (n : Nat) (A : Around), A.units + n < cLine → ∀ (x y : V) (v u : Value), EqW X.K H n x y → RelV x v → RelV y u → SeqAt.EqP X.prog X.w A s v u true := by
 intro n
 induction n with
 | zero => intro A _ x y v u h; exact h.elim
 | succ n ih =>
  intro A hu x y v u h rx ry
  rcases h with ⟨rfl, f⟩ | h
  ·exact (eqAt_same rx ry f).eqP
  ·have turn := eqTD_run I (A := A) (by omega) (ih A.in1 (by show A.units + 1 + n < cLine; omega)) h rx ry
   have hab : ∃ a b, v = .ref a ∧ u = .ref b := by
    rcases h with ⟨a, b, _, _, rfl, rfl, _⟩ | ⟨a, b, _, _, rfl, rfl, _⟩
    ·exact ⟨a, b, rx, ry⟩
    ·exact ⟨a, b, rx, ry⟩
   obtain ⟨a, b, rfl, rfl⟩ := hab
   by_cases e : a = b
   ·rw [e]
    exact (SeqAt.EqAt.same _).eqP
   ·exact SeqAt.eqP_refs e turn
end
def rEqTD (K : PySem.W.Frag) : R2 := fun x y H Q => ∃ n, n ≤ 40 ∧ EqTD K H (EqW K H n) x y ∧ Q (.bl true) H
theorem op_eqTD {X : Cx} (hu : X.A.units + 64 < cLine) : OpR X (compareOp .Eq) (rEqTD X.K) := by
 intro pins s σ H x y v u Q I rx ry h
 obtain ⟨n, hn, h, q⟩ := h
 exact eqTD_run I (A := X.A) (by omega) (eqW_run I n X.A.in1 (by show X.A.units + 1 + n < cLine; omega)) h rx ry _ _ ⟨.bl true, H, I, rfl, q⟩
theorem paired_refl {F : V → V → Prop} : ∀ {xs : List V}, (∀ x ∈ xs, F x x) → Paired F xs xs
 | [], _ => .nil
 | x :: r, h => .cons (h x List.mem_cons_self) (paired_refl fun y m => h y (List.mem_cons_of_mem _ m))
theorem EqW.strs {K : PySem.W.Frag} {H : Hp} {a b : Addr} {l : List Str} {n : Nat} (ha : H a = some (.tup (l.map V.str))) (hb : H b = some (.tup (l.map V.str))) : EqTD K H (EqW K H (n + 1)) (.ref a) (.ref b) :=
 .inl ⟨a, b, _, _, rfl, rfl, ha, hb, paired_refl fun x m => by
  obtain ⟨z, _, rfl⟩ := List.mem_map.mp m
  exact .inl ⟨rfl, rfl⟩⟩
theorem ShAt.eqW {K : PySem.W.Frag} {H : Hp} : ∀ {s : Shp} {n : Nat} {v u : V}, s.dep < n → ShAt H v s → ShAt H u s → EqW K H n v u := by
 intro s
 induction s with
 | base z =>
  rintro n v u hn rfl rfl
  obtain ⟨m, rfl⟩ := Nat.exists_eq_succ_of_ne_zero (show n ≠ 0 by omega)
  exact .inl ⟨rfl, rfl⟩
 | sure s ih =>
  rintro n v u hn ⟨a, v', rfl, ha, hv⟩ ⟨b, u', rfl, hb, hu⟩
  have hn' : s.dep + 1 < n := hn
  obtain ⟨m, rfl⟩ := Nat.exists_eq_succ_of_ne_zero (show n ≠ 0 by omega)
  obtain ⟨m', rfl⟩ := Nat.exists_eq_succ_of_ne_zero (show m ≠ 0 by omega)
  exact .inr (.inl ⟨a, b, _, _, rfl, rfl, ha, hb, .cons (.inl ⟨rfl, rfl⟩) (.cons (ih (by omega) hv hu) .nil)⟩)
 | list s ih =>
  rintro n v u hn ⟨a, v', rfl, ha, hv⟩ ⟨b, u', rfl, hb, hu⟩
  have hn' : s.dep + 1 < n := hn
  obtain ⟨m, rfl⟩ := Nat.exists_eq_succ_of_ne_zero (show n ≠ 0 by omega)
  obtain ⟨m', rfl⟩ := Nat.exists_eq_succ_of_ne_zero (show m ≠ 0 by omega)
  exact .inr (.inl ⟨a, b, _, _, rfl, rfl, ha, hb, .cons (.inl ⟨rfl, rfl⟩) (.cons (ih (by omega) hv hu) .nil)⟩)
def EqFds (fds fds' : List Fld) : Prop := fds'.length = fds.length ∧ ∀ (i : Nat) (f f' : Fld), fds[i]? = some f → fds'[i]? = some f' → f'.1 = f.1 ∧ f'.2.2 = f.2.2
def EqK (ks ks' : List KRow) : Prop := ks'.length = ks.length ∧ ∀ (i : Nat) (k k' : KRow), ks[i]? = some k → ks'[i]? = some k' → k'.nm = k.nm ∧ k'.fcs.Perm k.fcs ∧ EqFds k.fds k'.fds
def EqF (fs fs' : List FRow) : Prop := fs'.length = fs.length ∧ ∀ (i : Nat) (k k' : FRow), fs[i]? = some k → fs'[i]? = some k' → k'.nm = k.nm ∧ EqFds k.fds k'.fds
theorem EqFds.dict {K : PySem.W.Frag} {H : Hp} {a b : Addr} {fds fds' : List Fld} (h : EqFds fds fds') (nd : (fds.map (·.1)).Nodup) (dp : ∀ f ∈ fds, f.2.2.dep ≤ 4) (ha : FldAt H a fds) (hb : FldAt H b fds') : EqTD K H (EqW K H 5) (.ref a) (.ref b) := by
 refine .inr ⟨a, b, _, _, rfl, rfl, ha.at_, hb.at_, ?_, fun kv m => ?_⟩
 ·rw [show (fkv fds).length = fds.length from List.length_map .., show (fkv fds').length = fds'.length from List.length_map .., h.1]
 ·obtain ⟨f, mf, rfl⟩ := List.mem_map.mp m
  obtain ⟨i, ei⟩ := List.getElem?_of_mem mf
  obtain ⟨f', ei'⟩ := at_len h.1 ei
  obtain ⟨e1, e2⟩ := h.2 i f f' ei ei'
  have nd' : (fds'.map (·.1)).Nodup := by rw [map_rel h.1 fun i a b ea eb => (h.2 i a b ea eb).1]; exact nd
  have mf' := List.mem_of_getElem? ei'
  refine ⟨f'.2.1, ?_, ShAt.eqW (s := f.2.2) (Nat.lt_succ_of_le (dp f mf)) (ha.sh f mf) (e2 ▸ hb.sh f' mf')⟩
  show valV (fkv fds') (Sum.inr f.1) = _
  rw [← e1]
  exact fkv_val nd' mf'
end NW

namespace NW
open PySem PySem.Spec PyProof.Rows L2
open TL (tl)
open StX (pa_star)
abbrev s_Schema_eq : Stmt := inClass (topS 56) 1
abbrev N_Schema_eq : List Str := ["self", "other"]
theorem sc_Schema_eq : FnScope N_Schema_eq ["self", "other"] (defScope s_Schema_eq) := ⟨rfl, rfl, rfl, by decide +kernel, rfl, by decide +kernel, by decide +kernel⟩
structure ClsI (K : PySem.W.Frag) (C : Addr) : Prop where
 ha : PySem.W.findIn K (.ref C) "__class__" = some (some (.builtin "object.__class__"))
 hn : PySem.W.specialIn K (.builtin "object.__class__") "__get__" = some (some (.builtin "getset_descriptor.__get__"))
 htk : PySem.W.takesIn K (.builtin "object.__class__") = some true
 hm : PySem.W.mroIn K C (.type "object") = some true
 isi : PySem.W.kitOne K (.ref C) (.ref C) = some true
structure EqM (K : PySem.W.Frag) (C f : Addr) : Prop where
 at_ : PySem.W.findIn K (.ref C) "__eq__" = some (some (.ref f))
 fn : PySem.W.isFn K (.ref f) = true
def REq (C : Addr) (a b : Addr) (H : Hp) : Prop := ∃ ks fs us root ks' fs', BuiltAt C H a ks fs us root ∧ BuiltAt C H b ks' fs' us root ∧ SchOk ks fs us root ∧ EqK ks ks' ∧ EqF fs fs'
section
variable {P : Program} {w : World} {K : PySem.W.Frag} {mg : Str → Option Value} {base : Heap}
theorem ok_eq {f C : Addr} {fd : FuncData} (F : Fun K "__eq__" "Schema.__eq__" s_Schema_eq f fd) (T : Nms mg) (L : ClT K C) (gS : mg "Schema" = some (.ref C)) (ci : ClsI K C) : FnOk P w K mg base CX0 1 f fd ["self", "other"] (spEq (REq C)) := by
 refine F.ok sc_Schema_eq (fun vs H Q E h => ?_) (fun cdv A outer s H vs Q E hr h => ?_)
 ·obtain ⟨x, y, rfl, _⟩ := h
  rfl
 ·obtain ⟨x, y, rfl, ⟨ks, fs, us, root, ks', fs', Bt, Bt', ok, ek, ef⟩, q⟩ := h
  have hu := hu_of hr
  refine ⟨_, (pss_one (ps_ret (pe_and (pe_callB call_isi (by rfl) T.n_isinstance (by decide +kernel) (pa_cons (pv 1) (pa_cons (pe_glob (v := .ref C) (by rfl) gS rfl) pa_nil))) (pe_and (pe_cmpR (op_eqTD hr.units) (pe_fld (pv 0) rfl) (pe_fld (pv 1) rfl) (nomark _)) (pe_and (pe_cmpR (op_eqTD hr.units) (pe_fld (pv 0) rfl) (pe_fld (pv 1) rfl) (nomark _)) (pe_and (pe_cmpR (op_eqTD hr.units) (pe_fld (pv 0) rfl) (pe_fld (pv 1) rfl) (nomark _)) (pe_one (pe_cmpR op_eq (pe_fld (pv 0) rfl) (pe_fld (pv 1) rfl) (nomark _))))))))), ?_⟩
  obtain ⟨dx, kt, ft, ut, k1, f1, u1, hx, S, rk, rf, ru⟩ := Bt
  obtain ⟨dy, lt, gt, vt, k2, f2, u2, hy, S', rk', rf', ru'⟩ := Bt'
  have lk : k2.length = k1.length := by rw [rk'.1, ek.1, rk.1]
  have lf : f2.length = f1.length := by rw [rf'.1, ef.1, rf.1]
  have lu : u2.length = u1.length := by rw [ru'.1, ru.1]
  have dk : ∀ (i : Nat) a b, k1[i]? = some a → k2[i]? = some b → b.nm = a.nm ∧ b.fcs = a.fcs ∧ EqFds a.fds b.fds ∧ (a.fds.map (·.1)).Nodup ∧ ∀ f ∈ a.fds, f.2.2.dep ≤ 4 := by
   intro i a b ea eb
   obtain ⟨k, hk⟩ := at_len rk.1.symm ea
   obtain ⟨k', hk'⟩ := at_len rk'.1.symm eb
   obtain ⟨a1, a2, a3, a4⟩ := rk.2 i k a hk ea
   obtain ⟨b1, b2, b3, b4⟩ := rk'.2 i k' b hk' eb
   obtain ⟨c1, c2, c3⟩ := ek.2 i k k' hk hk'
   have mk := List.mem_of_getElem? hk
   refine ⟨b1.trans (c1.trans a1.symm), sorted_one b3 a3 (b2.trans (c2.trans a2.symm)), by rw [a4, b4]; exact c3, by rw [a4]; exact (ok.kd k mk).nd, fun f m => ?_⟩
   rw [a4] at m
   exact okS_dep ((ok.kd k mk).sh f m)
  have df : ∀ (i : Nat) a b, f1[i]? = some a → f2[i]? = some b → b.nm = a.nm ∧ EqFds a.fds b.fds ∧ (a.fds.map (·.1)).Nodup ∧ ∀ f ∈ a.fds, f.2.2.dep ≤ 4 := by
   intro i a b ea eb
   obtain ⟨k, hk⟩ := at_len rf.1.symm ea
   obtain ⟨k', hk'⟩ := at_len rf'.1.symm eb
   obtain ⟨a1, a4⟩ := rf.2 i k a hk ea
   obtain ⟨b1, b4⟩ := rf'.2 i k' b hk' eb
   obtain ⟨c1, c3⟩ := ef.2 i k k' hk hk'
   have mk := List.mem_of_getElem? hk
   refine ⟨b1.trans (c1.trans a1.symm), by rw [a4, b4]; exact c3, by rw [a4]; exact (ok.fd k mk).nd, fun f m => ?_⟩
   rw [a4] at m
   exact okS_dep ((ok.fd k mk).sh f m)
  have du : ∀ (i : Nat) a b, u1[i]? = some a → u2[i]? = some b → b.nm = a.nm ∧ b.ms = a.ms := by
   intro i a b ea eb
   obtain ⟨k, hk⟩ := at_len ru.1.symm ea
   obtain ⟨k', hk'⟩ := at_len ru'.1.symm eb
   obtain ⟨a1, a2, a3⟩ := ru.2 i k a hk ea
   obtain ⟨b1, b2, b3⟩ := ru'.2 i k' b hk' eb
   have : k = k' := by rw [hk] at hk'; cases hk'; rfl
   subst this
   exact ⟨b1.trans a1.symm, sorted_one b3 a3 (b2.trans a2.symm)⟩
  have nk2 : (k2.map (·.nm)).Nodup := by
   rw [map_rel lk fun i a b ea eb => (dk i a b ea eb).1, rk.names']
   exact ok.ndk
  have nf2 : (f2.map (·.nm)).Nodup := by
   rw [map_rel lf fun i a b ea eb => (df i a b ea eb).1, rf.names']
   exact ok.ndf
  have nu2 : (u2.map (·.nm)).Nodup := by
   rw [map_rel lu fun i a b ea eb => (du i a b ea eb).1, ru.names']
   exact ok.ndu
  have e1 : EqTD K H (EqW K H 7) (.ref kt) (.ref lt) := by
   refine .inr ⟨kt, lt, _, _, rfl, rfl, S.kd, S'.kd, ?_, fun kv m => ?_⟩
   ·rw [show (kkv k1).length = k1.length from List.length_map .., show (kkv k2).length = k2.length from List.length_map .., lk]
   ·obtain ⟨a, ma, rfl⟩ := List.mem_map.mp m
    obtain ⟨i, ei⟩ := List.getElem?_of_mem ma
    obtain ⟨b, eb⟩ := at_len lk ei
    obtain ⟨c1, c2, c3, c4, c5⟩ := dk i a b ei eb
    have mb := List.mem_of_getElem? eb
    have ha := S.ka a ma
    have hb := S'.ka b mb
    refine ⟨.ref b.t, ?_, .inr (.inl ⟨a.t, b.t, _, _, rfl, rfl, ha.t, hb.t, .cons (.inr (EqW.strs (n := 4) ha.f (c2 ▸ hb.f))) (.cons (.inr (c3.dict c4 c5 ha.d hb.d)) .nil)⟩)⟩
    show valV (kkv k2) (Sum.inr a.nm) = _
    rw [← c1]
    exact kkv_val nk2 mb
  have e2 : EqTD K H (EqW K H 6) (.ref ft) (.ref gt) := by
   refine .inr ⟨ft, gt, _, _, rfl, rfl, S.fd, S'.fd, ?_, fun kv m => ?_⟩
   ·rw [show (fkvs f1).length = f1.length from List.length_map .., show (fkvs f2).length = f2.length from List.length_map .., lf]
   ·obtain ⟨a, ma, rfl⟩ := List.mem_map.mp m
    obtain ⟨i, ei⟩ := List.getElem?_of_mem ma
    obtain ⟨b, eb⟩ := at_len lf ei
    obtain ⟨c1, c3, c4, c5⟩ := df i a b ei eb
    have mb := List.mem_of_getElem? eb
    refine ⟨.ref b.da, ?_, .inr (c3.dict c4 c5 (S.fa a ma) (S'.fa b mb))⟩
    show valV (fkvs f2) (Sum.inr a.nm) = _
    rw [← c1]
    exact fkvs_val nf2 mb
  have e3 : EqTD K H (EqW K H 6) (.ref ut) (.ref vt) := by
   refine .inr ⟨ut, vt, _, _, rfl, rfl, S.ud, S'.ud, ?_, fun kv m => ?_⟩
   ·rw [show (ukv u1).length = u1.length from List.length_map .., show (ukv u2).length = u2.length from List.length_map .., lu]
   ·obtain ⟨a, ma, rfl⟩ := List.mem_map.mp m
    obtain ⟨i, ei⟩ := List.getElem?_of_mem ma
    obtain ⟨b, eb⟩ := at_len lu ei
    obtain ⟨c1, c2⟩ := du i a b ei eb
    have mb := List.mem_of_getElem? eb
    refine ⟨.ref b.t, ?_, .inr (EqW.strs (n := 4) (S.ua a ma) (c2 ▸ S'.ua b mb))⟩
    show valV (ukv u2) (Sum.inr a.nm) = _
    rw [← c1]
    exact ukv_val nu2 mb
  refine ⟨.ref y, rfl, _, _, _, _, true, rfl, .own C, .base (.ins hy L.cl ci.ha ci.hn ci.htk ci.hm), ci.isi, true, rfl, iteT ?_⟩
  refine ⟨.ref x, rfl, x, C, dx, _, _, rfl, hx, L.cl, L.nk, lkk .., .ref y, rfl, y, C, dy, _, _, rfl, hy, L.cl, L.nk, lkk .., 7, by decide, e1, true, rfl, iteT ?_⟩
  refine ⟨.ref x, rfl, x, C, dx, _, _, rfl, hx, L.cl, L.nf, lkf .., .ref y, rfl, y, C, dy, _, _, rfl, hy, L.cl, L.nf, lkf .., 6, by decide, e2, true, rfl, iteT ?_⟩
  refine ⟨.ref x, rfl, x, C, dx, _, _, rfl, hx, L.cl, L.nu, lku .., .ref y, rfl, y, C, dy, _, _, rfl, hy, L.cl, L.nu, lku .., 6, by decide, e3, true, rfl, iteT ?_⟩
  refine ⟨.ref x, rfl, x, C, dx, _, _, rfl, hx, L.cl, L.nr, lkr .., .ref y, rfl, y, C, dy, _, _, rfl, hy, L.cl, L.nr, lkr .., rfl, ?_⟩
  rw [decide_eq_true rfl]
  exact q H (fun _ _ e => e)
end
end NW
namespace NW
open PySem PySem.Spec PyProof.Rows L2
open TL (tl)
theorem passAE {X : Cx} {σ : L2.St} : PassesAt (L2N.CX X.prog X.w) X σ ((fun _ => E0) σ) := fun pins H s e s' I c => passA pins σ H s e s' I c
theorem nd_injE {α β : Type} {f : α → β} : ∀ {l : List α}, (l.map f).Nodup → ∀ {a b : α}, a ∈ l → b ∈ l → f a = f b → a = b
 | [], _, _, _, m, _, _ => nomatch m
 | x :: l, nd, a, b, ma, mb, e => by
  rw [List.map_cons, List.nodup_cons] at nd
  rcases List.mem_cons.mp ma with rfl | ma' <;> rcases List.mem_cons.mp mb with rfl | mb'
  ·rfl
  ·exact absurd (by rw [e]; exact List.mem_map_of_mem mb') nd.1
  ·exact absurd (by rw [← e]; exact List.mem_map_of_mem ma') nd.1
  ·exact nd_injE nd.2 ma' mb' e
theorem SameL.sc {n : Nat} {L : List Addr} {H : Hp} {v : V} (h : Sc v) : SameL n L H v v := by
 cases n with
 | zero => exact ⟨rfl, h⟩
 | succ n => exact .inl ⟨rfl, h⟩
theorem VA.sameL {H : Hp} {n : Nat} {u : V} {d : PyData} (h : VA H n u d) : ∀ {v : V} (L : List Addr), VA H n v d → SameL (n + 1) L H u v := by
 induction h with
 | non n =>
  intro v L h2
  cases h2
  exact .inl ⟨rfl, .inl rfl⟩
 | @fail n a e =>
  intro v L h2
  generalize hd : failD = d at h2
  cases h2 with
  | fail n e2 =>
   refine .inr (.inl ⟨_, _, _, _, rfl, rfl, .inr ⟨e, e2⟩, rfl, by show 1 ≤ 1000; decide, fun i u w e1 e2 => ?_⟩)
   rw [e1] at e2
   cases e2
   have m := List.mem_of_getElem? e1
   rw [List.mem_singleton.mp m]
   exact .sc (.inr (.inr (.inr ⟨_, rfl⟩)))
  | non n => cases hd
  | num n i => cases hd
  | txt n h l => cases hd
  | lst n e hl hm al => cases hd
 | num n i =>
  intro v L h2
  cases h2
  exact .inl ⟨rfl, .inr (.inr (.inl ⟨_, rfl⟩))⟩
 | txt n h l =>
  intro v L h2
  cases h2
  exact .inl ⟨rfl, .inr (.inr (.inr ⟨_, rfl⟩))⟩
 | @lst n a xs ds e hl hm al ih =>
  intro v L h2
  generalize hd : PyData.list ds = d at h2
  generalize hn : n + 1 = m at h2
  cases h2 with
  | @lst n' a' xs' ds' e' hl' hm' al' =>
   cases hd
   cases hn
   refine .inr (.inl ⟨_, _, _, _, rfl, rfl, .inl ⟨e, e'⟩, by omega, by omega, fun i u w e1 e2 => ?_⟩)
   have hi := (List.getElem?_eq_some_iff.mp e1).1
   have ed := List.getElem?_eq_getElem (show i < ds.length by omega)
   exact ih i u _ e1 ed L (al' i w _ e2 ed)
  | fail n e => cases hd
  | non n => cases hd
  | num n i => cases hd
  | txt n h l => cases hd
theorem vals_sameL {H : Hp} {L : List Addr} {a b : Addr} {vs1 vs2 : List (Str × V × PyData)} (ha : H a = some (.dK (vkv vs1))) (hb : H b = some (.dK (vkv vs2))) (e : vdat vs1 = vdat vs2) (nd : (vs2.map (·.1)).Nodup) (hl : vs2.length ≤ 1000)
  (v1 : ∀ f ∈ vs1, VA H 4 f.2.1 f.2.2) (v2 : ∀ f ∈ vs2, VA H 4 f.2.1 f.2.2) (na : a ∉ L) (nb : b ∉ L) : SameL 6 L H (.ref a) (.ref b) := by
 have enm : vs1.map (·.1) = vs2.map (·.1) := by rw [← vdat_names, e, vdat_names]
 have el : vs1.length = vs2.length := by
  have := congrArg List.length enm
  rw [List.length_map, List.length_map] at this
  exact this
 refine .inr (.inr ⟨a, b, _, _, rfl, rfl, na, nb, ha, hb, by unfold vkv; rw [List.length_map, List.length_map]; exact el, by unfold vkv; rw [List.length_map]; exact hl, ?_, fun k v m => ?_⟩)
 ·have : (vkv vs2).map (·.1) = (vs2.map (·.1)).map (Sum.inr : Str → Key) := by unfold vkv; rw [List.map_map, List.map_map]; rfl
  rw [this]
  exact List.Pairwise.map _ (fun a b n z => n (Sum.inr.inj z)) nd
 ·obtain ⟨f, mf, ef⟩ := List.mem_map.mp m
  cases ef
  obtain ⟨g, mg, g1, g2⟩ := vdat_ex e.symm mf
  refine ⟨g.2.1, by rw [← g1]; exact vkv_val (by rw [enm]; exact nd) mg, ?_⟩
  have h2 := v2 f mf
  rw [← g2] at h2
  exact (v1 g mg).sameL _ h2
theorem thing_sameL {H : Hp} {L : List Addr} {r1 r2 : TRow} (t1 : H r1.t = some (.tup [.str r1.kd, .ref r1.da])) (t2 : H r2.t = some (.tup [.str r2.kd, .ref r2.da])) (ek : r1.kd = r2.kd) (h : SameL 6 L H (.ref r1.da) (.ref r2.da)) : SameL 7 L H (.ref r1.t) (.ref r2.t) := by
 refine .inr (.inl ⟨_, _, _, _, rfl, rfl, .inr ⟨t1, t2⟩, rfl, by show 2 ≤ 1000; decide, fun i u w e1 e2 => ?_⟩)
 match i, e1, e2 with
 | 0, e1, e2 =>
  cases e1
  cases e2
  rw [ek]
  exact .sc (.inr (.inr (.inr ⟨_, rfl⟩)))
 | 1, e1, e2 =>
  cases e1
  cases e2
  exact h
 | i + 2, e1, e2 => cases e1
theorem strs_sameV {H : Hp} {a b : Addr} {l : List Str} (ha : H a = some (.lst (l.map V.str))) (hb : H b = some (.lst (l.map V.str))) (hl : l.length ≤ 1000) {n : Nat} : SameV (n + 1) H (.ref a) (.ref b) := by
 refine .inr (.inl ⟨a, b, _, _, rfl, rfl, .inl ⟨ha, hb⟩, rfl, by rw [List.length_map]; exact hl, fun i u w e1 e2 => ?_⟩)
 rw [e1] at e2
 cases e2
 obtain ⟨z, _, rfl⟩ := List.mem_map.mp (List.mem_of_getElem? e1)
 exact .sc (.inr (.inr (.inr ⟨z, rfl⟩)))
theorem things_sameV {H : Hp} {a b : Addr} {rs ths : List TRow} (ha : H a = some (.dK (thkv rs))) (hb : H b = some (.dK (thkv ths))) (e : tdat rs = tdat ths) (nd : (ths.map (·.nm)).Nodup) (hl : ths.length ≤ 1000) (fnd : ∀ r ∈ ths, (r.vs.map (·.1)).Nodup ∧ r.vs.length ≤ 1000)
  (h1 : ∀ r ∈ rs, H r.t = some (.tup [.str r.kd, .ref r.da]) ∧ H r.da = some (.dK (vkv r.vs)) ∧ r.da ≠ b ∧ ∀ f ∈ r.vs, VA H 4 f.2.1 f.2.2) (h2 : ∀ r ∈ ths, H r.t = some (.tup [.str r.kd, .ref r.da]) ∧ H r.da = some (.dK (vkv r.vs)) ∧ r.da ≠ b ∧ ∀ f ∈ r.vs, VA H 4 f.2.1 f.2.2) : SameV 8 H (.ref a) (.ref b) := by
 have enm := tdat_nm e
 have el := tdat_len e
 refine .inr (.inr ⟨a, b, _, _, rfl, rfl, List.not_mem_nil, List.not_mem_nil, ha, hb, by unfold thkv; rw [List.length_map, List.length_map]; exact el, by unfold thkv; rw [List.length_map]; exact hl, ?_, fun k v m => ?_⟩)
 ·have : (thkv ths).map (·.1) = (ths.map (·.nm)).map (Sum.inr : Str → Key) := by unfold thkv; rw [List.map_map, List.map_map]; rfl
  rw [this]
  exact List.Pairwise.map _ (fun a b n z => n (Sum.inr.inj z)) nd
 ·obtain ⟨r, mr, er⟩ := List.mem_map.mp m
  cases er
  obtain ⟨s, ms, s1, s2, s3⟩ := tdat_ex e.symm mr
  obtain ⟨a1, a2, a3, a4⟩ := h1 s ms
  obtain ⟨b1, b2, b3, b4⟩ := h2 r mr
  exact ⟨.ref s.t, by rw [← s1]; exact thkv_val (by rw [enm]; exact nd) ms, thing_sameL a1 b1 s2 (vals_sameL a2 b2 s3 (fnd r mr).1 (fnd r mr).2 a4 b4 (fun z => a3 (List.mem_singleton.mp z)) fun z => b3 (List.mem_singleton.mp z))⟩
theorem REq.self {C x : Addr} {H : Hp} {ks : List KRow} {fs : List FRow} {us : List URow} {root : Str} (b : BuiltAt C H x ks fs us root) (ok : SchOk ks fs us root) : REq C x x H := by
 have fd : ∀ fds : List Fld, EqFds fds fds := fun fds => ⟨rfl, fun i f f' e1 e2 => by
  rw [e1] at e2
  cases e2
  exact ⟨rfl, rfl⟩⟩
 refine ⟨ks, fs, us, root, ks, fs, b, b, ok, ⟨rfl, fun i k k' e1 e2 => ?_⟩, ⟨rfl, fun i k k' e1 e2 => ?_⟩⟩
 ·rw [e1] at e2
  cases e2
  exact ⟨rfl, List.Perm.refl _, fd _⟩
 ·rw [e1] at e2
  cases e2
  exact ⟨rfl, fd _⟩
def OutO (K : PySem.W.Frag) (b : Addr) (H : Hp) (names : List Str) (y : V) : Prop := (∃ z, y = .str z ∧ z ∉ names) ∨ ∃ t, (∀ H', Gr b H H' → TyX K H' y t) ∧ PySem.W.kitOne K t (.type "str") = some false
theorem OutO.t {K : PySem.W.Frag} {b : Addr} {H H' : Hp} {names : List Str} {y : V} (h : OutO K b H names y) (s : Gr b H H') : OutT K H' names y := by
 rcases h with h | ⟨t, h, k⟩
 ·exact .inl h
 ·exact .inr ⟨t, h H' s, k⟩
def Due (K : PySem.W.Frag) (b : Addr) (H : Hp) (ths : List TRow) (y u : V) (ds : List V) : Prop :=
 (∃ r ∈ ths, y = .str r.nm ∧ ((u = .non ∧ ds = [.str "given", .str r.kd]) ∨ (∃ f ∈ r.vs, u = .str f.1 ∧ ds = [.str "given", f.2.1]) ∨ (u ≠ .non ∧ OutO K b H (r.vs.map (·.1)) u ∧ ds = [.str "field", .str r.kd, u]))) ∨ (OutO K b H (ths.map (·.nm)) y ∧ ds = [.str "thing", y])
theorem tup2_sameV {H : Hp} {a b : Addr} {u v u' v' : V} {n : Nat} (ha : H a = some (.tup [u, v])) (hb : H b = some (.tup [u', v'])) (h1 : SameL n [] H u u') (h2 : SameL n [] H v v') : SameV (n + 1) H (.ref a) (.ref b) := by
 refine .inr (.inl ⟨a, b, _, _, rfl, rfl, .inr ⟨ha, hb⟩, rfl, by show 2 ≤ 1000; decide, fun i x y e1 e2 => ?_⟩)
 match i, e1, e2 with
 | 0, e1, e2 =>
  cases e1
  cases e2
  exact h1
 | 1, e1, e2 =>
  cases e1
  cases e2
  exact h2
 | i + 2, e1, e2 => cases e1
theorem tup3_sameV {H : Hp} {a b : Addr} {u v w u' v' w' : V} {n : Nat} (ha : H a = some (.tup [u, v, w])) (hb : H b = some (.tup [u', v', w'])) (h1 : SameL n [] H u u') (h2 : SameL n [] H v v') (h3 : SameL n [] H w w') : SameV (n + 1) H (.ref a) (.ref b) := by
 refine .inr (.inl ⟨a, b, _, _, rfl, rfl, .inr ⟨ha, hb⟩, rfl, by show 3 ≤ 1000; decide, fun i x y e1 e2 => ?_⟩)
 match i, e1, e2 with
 | 0, e1, e2 =>
  cases e1
  cases e2
  exact h1
 | 1, e1, e2 =>
  cases e1
  cases e2
  exact h2
 | 2, e1, e2 =>
  cases e1
  cases e2
  exact h3
 | i + 3, e1, e2 => cases e1
structure MI (B : Hp) (M : Addr → Prop) (hp : Addr) (rs : List TRow) (Sf : Str → Str → List Addr) (rd : Str → Prop) (fdn : Str → Str → Prop) (H' : Hp) : Prop where
 k : ∀ a o, B a = some o → ¬ M a → H' a = some o
 h : H' hp = some (.dK (thkv rs))
 t : ∀ y ∈ rs, H' y.t = some (.tup [.str y.kd, .ref y.da])
 d : ∀ y ∈ rs, ¬ rd y.nm → H' y.da = some (.dK (vkv y.vs))
 v : ∀ y ∈ rs, ¬ rd y.nm → ∀ f ∈ y.vs, ¬ fdn y.nm f.1 → VT H' 4 f.2.1 f.2.2 (Sf y.nm f.1)
 al : ∀ a, M a → ∃ o, H' a = some o
section
variable {B H1 H2 : Hp} {M : Addr → Prop} {hp : Addr} {rs : List TRow} {Sf : Str → Str → List Addr} {rd rd' : Str → Prop} {fdn fdn' : Str → Str → Prop}
theorem MI.same (m : MI B M hp rs Sf rd fdn H1) (s : Same H1 H2) : MI B M hp rs Sf rd fdn H2 :=
 ⟨fun a o e n => s _ _ (m.k a o e n), s _ _ m.h, fun y my => s _ _ (m.t y my), fun y my n => s _ _ (m.d y my n), fun y my n f mf nf => (m.v y my n f mf nf).same s, fun a ma => by obtain ⟨o, e⟩ := m.al a ma; exact ⟨o, s _ _ e⟩⟩
theorem MI.weak (m : MI B M hp rs Sf rd fdn H1) (h1 : ∀ x, rd x → rd' x) (h2 : ∀ x z, ¬ rd' x → fdn x z → fdn' x z) : MI B M hp rs Sf rd' fdn' H1 :=
 ⟨m.k, m.h, m.t, fun y my n => m.d y my fun z => n (h1 _ z), fun y my n f mf nf => m.v y my (fun z => n (h1 _ z)) f mf fun z => nf (h2 _ _ n z), m.al⟩
theorem MI.off (m : MI B M hp rs Sf rd fdn H1) {c f : Str} (has : ∀ a ∈ Sf c f, ∃ xs, H1 a = some (.lst xs)) (hM : ∀ a ∈ Sf c f, M a) (dj : ∀ x z x' z' a, a ∈ Sf x z → a ∈ Sf x' z' → x = x' ∧ z = z') (o : OffT (Sf c f) H1 H2) :
  MI B M hp rs Sf rd (fun x z => fdn x z ∨ (x = c ∧ z = f)) H2 := by
 have nl : ∀ {a u}, H1 a = some u → (∀ xs, u ≠ .lst xs) → H2 a = some u := fun {a u} e n => o.1 a u e fun m => by
  obtain ⟨xs, ex⟩ := has a m
  rw [ex] at e
  exact n xs (Option.some.inj e).symm
 refine ⟨fun a u e n => o.1 a u (m.k a u e n) fun ma => n (hM a ma), nl m.h (by intro xs z; cases z), fun y my => nl (m.t y my) (by intro xs z; cases z), fun y my n => nl (m.d y my n) (by intro xs z; cases z), fun y my n g mg nf => ?_, fun a ma => ?_⟩
 rotate_left
 ·by_cases h : a ∈ Sf c f
  ·obtain ⟨xs, e⟩ := o.2 a h
   exact ⟨_, e⟩
  ·obtain ⟨u, e⟩ := m.al a ma
   exact ⟨u, o.1 a u e h⟩
 refine (m.v y my n g mg fun z => nf (.inl z)).keep (fun a xs ma e => o.1 a _ e fun mb => ?_) fun a xs e => nl e (by intro xs z; cases z)
 exact nf (.inr (dj _ _ _ _ a ma mb))
theorem MI.clear (m : MI B M hp rs Sf rd fdn H1) {y0 : TRow} (my0 : y0 ∈ rs) (hd : H1 y0.da = some (.dK (vkv y0.vs))) (hM : M y0.da) (nh : y0.da ≠ hp) (dd : (rs.map (·.da)).Nodup) (nd : (rs.map (·.nm)).Nodup) :
  MI B M hp rs Sf (fun x => rd x ∨ x = y0.nm) fdn (upd H1 y0.da (.dK [])) := by
 have kl : ∀ a xs, H1 a = some (.lst xs) → (upd H1 y0.da (.dK [])) a = some (.lst xs) := fun a xs e => by rw [upd_ne (ne_of e hd (by intro z; cases z))]; exact e
 have kt : ∀ a xs, H1 a = some (.tup xs) → (upd H1 y0.da (.dK [])) a = some (.tup xs) := fun a xs e => by rw [upd_ne (ne_of e hd (by intro z; cases z))]; exact e
 refine ⟨fun a o e n => by rw [upd_ne (fun z => n (by rw [z]; exact hM))]; exact m.k a o e n, by rw [upd_ne nh.symm]; exact m.h, fun y my => kt _ _ (m.t y my), fun y my n => ?_, fun y my n f mf nf => (m.v y my (fun z => n (.inl z)) f mf nf).tl kl kt, fun a ma => ?_⟩
 rotate_left
 ·by_cases h : a = y0.da
  ·exact ⟨_, by rw [h]; exact upd_same⟩
  ·obtain ⟨u, e⟩ := m.al a ma
   exact ⟨u, by rw [upd_ne h]; exact e⟩
 rw [upd_ne fun z => n (.inr (congrArg TRow.nm (nd_injE dd my my0 z)))]
 exact m.d y my fun z => n (.inl z)
end
end NW
namespace NW
open PySem PySem.Spec PyProof.Rows L2
open TL (tl)
open StX (pa_star)

abbrev s_law : Stmt := topS 78
abbrev N_law : List Str := ["_law_script", "_law_box_here", "_law_schema_here", "_law_built", "_law_given", "_law_handed_here", "_law_store", "_law_thing", "_law_field", "_law_things_here", "_law_turn", "_law_fields", "_law_value_here", "_law_due"]
theorem sc_law : FnScope N_law ["_law_script"] (defScope s_law) := ⟨rfl, rfl, rfl, by decide +kernel, rfl, by decide +kernel, by decide +kernel⟩
section
variable {P : Program} {w : World} {K : PySem.W.Frag} {mg : Str → Option Value} {base : Heap}
def spLaw (K : PySem.W.Frag) : Sp := fun vs H Q _ => ∃ (a : Addr) (ns : List Int), vs = [.ref a] ∧ SqL K H a (ns.map V.int) ∧ ns.length ≤ 63 ∧ ∀ H', Q (.bl true) H'
theorem ok_law {f f1 f2 f3 f4 f5 f6 f7 f8 f9 f10 f11 f12 f13 f14 f15 f16 fI C CT CN CF : Addr} {fd fd1 fd2 fd3 fd4 fd5 fd6 fd7 fd8 fd9 fd10 fd11 fd12 fd13 fd14 fd15 fd16 fdI : FuncData} (D : Df K mg "law" s_law f fd ["_law_script"])
  (D_Lbox : Df K mg "_law_box" s_Lbox f1 fd1 ["_law_script"]) (D_Ldraw : Df K mg "_law_draw" s_Ldraw f2 fd2 ["_law_box_here", "_law_many"])
  (D_Lschema : Df K mg "_law_schema" s_Lschema f3 fd3 ["_law_box_here", "_law_most", "_law_kinds"]) (G_Lschema : FnOk P w K mg base CX0 6 f3 fd3 ["_law_box_here", "_law_most", "_law_kinds"] spLschema)
  (D_Lmade : Df K mg "_law_made" s_Lmade f4 fd4 ["_law_schema_here"]) (G_Lmade : FnOk P w K mg base CX0 11 f4 fd4 ["_law_schema_here"] (spLmade C))
  (D_Lthings : Df K mg "_law_things" s_Lthings f5 fd5 ["_law_box_here", "_law_schema_here", "_law_bad"]) (G_Lthings : FnOk P w K mg base CX0 8 f5 fd5 ["_law_box_here", "_law_schema_here", "_law_bad"] spLthings)
  (D_Lhanded : Df K mg "_law_handed" s_Lhanded f6 fd6 ["_law_given"]) (G_Lhanded : FnOk P w K mg base CX0 6 f6 fd6 ["_law_given"] spLhanded)
  (MT : Mk K CT fI) (gT : mg "Store" = some (.ref CT)) (bI : Binds K fdI ["self", "schema", "things", "first"] []) (G_init : FnOk P w K mg base CX0 12 fI fdI ["self", "schema", "things", "first"] (spStInit C CT))
  (D_Lsame : Df K mg "_law_same" s_Lsame f7 fd7 ["_law_one", "_law_other"]) (D_Lchanged : Df K mg "_law_changed" s_Lchanged f8 fd8 ["_law_value_here"])
  (M_things : Mt K CT "things" "Store.things" s_Store_things f9 fd9 ["self"]) (G_things : FnOk P w K mg base CX0 1 f9 fd9 ["self"] (spThings CT))
  (M_kind_of : Mt K CT "kind_of" "Store.kind_of" s_Store_kind_of f10 fd10 ["self", "thing"]) (G_kind_of : FnOk P w K mg base (L2N.CX P w) 3 f10 fd10 ["self", "thing"] (spKindX K CT CN))
  (M_value : Mt K CT "value" "Store.value" s_Store_value f11 fd11 ["self", "thing", "field"]) (G_value : FnOk P w K mg base (L2N.CX P w) 6 f11 fd11 ["self", "thing", "field"] (spValueX K CT CN CF)) (LT : StT K CT)
  (D_Lstrange : Df K mg "_law_strange" s_Lstrange f12 fd12 ["_law_box_here"]) (D_Lpick : Df K mg "_law_pick" s_Lpick f13 fd13 ["_law_box_here", "_law_row"]) (D_Lwords : Df K mg "_law_words" s_Lwords f14 fd14 ["_law_box_here", "_law_many"])
  (D_Lmissing : Df K mg "_law_missing" s_Lmissing f15 fd15 ["_law_store", "_law_thing", "_law_field"]) (G_Lmissing : FnOk P w K mg base CX0 7 f15 fd15 ["_law_store", "_law_thing", "_law_field"] (spLmissing K CT))
  (mE : EqM K C f16) (bE : Binds K fd16 ["self", "other"] []) (G_eq : FnOk P w K mg base CX0 1 f16 fd16 ["self", "other"] (spEq (REq C))) (T : Nms mg) : FnOk P w K mg base CX0 15 f fd ["_law_script"] (spLaw K) := by
 have G_Lbox : FnOk P w K mg base CX0 1 f1 fd1 ["_law_script"] (spLbox K) := ok_Lbox D_Lbox T
 have G_Ldraw : FnOk P w K mg base CX0 1 f2 fd2 ["_law_box_here", "_law_many"] spLdraw := ok_Ldraw D_Ldraw T
 have G_Lsame := ok_Lsame (P := P) (w := w) (base := base) D_Lsame T 8
 have G_Lchanged := ok_Lchanged (P := P) (w := w) (base := base) D_Lchanged T 4
 have G_Lstrange := ok_Lstrange (P := P) (w := w) (base := base) D_Lstrange D_Ldraw T
 have G_Lpick := ok_LpickV (P := P) (w := w) (base := base) D_Lpick D_Ldraw T
 have G_Lwords := ok_Lwords (P := P) (w := w) (base := base) D_Lwords D_Ldraw T
 refine D.F.ok sc_law (fun vs H Q E h => ?_) (fun cdv A outer sh H vs Q E hr h => ?_)
 ·obtain ⟨a, ns, rfl, _⟩ := h
  rfl
 ·obtain ⟨a, ns, rfl, ha, hn, k⟩ := h
  have hu := hu_of hr
  have lt : ∀ n : Nat, n ≤ 1000 → n < sizeLine := fun n h => Nat.lt_of_le_of_lt h (by decide)
  have hS : ∀ n : Nat, n ≤ 1000 → n ≤ sizeLine := fun n h => Nat.le_trans h (by decide)
  refine ⟨_, (pss_cons (ps_set (i := 1) sc_law.nd rfl (.inl rfl) (pe_call G_Lbox (hr.mono (by decide)) (by rfl) D_Lbox.g D_Lbox.F.kp D_Lbox.b .nil pass0 (pa_cons (pv 0) pa_nil)))
   (pss_cons (ps_set (i := 2) sc_law.nd rfl (.inl rfl) (pe_call G_Lschema (hr.mono (by decide)) (by rfl) D_Lschema.g D_Lschema.F.kp D_Lschema.b .nil pass0 (pa_cons (pv 1) (pa_cons pe_int (pa_cons pe_int pa_nil)))))
   (pss_cons (ps_set (i := 3) sc_law.nd rfl (.inl rfl) (pe_call G_Lmade (hr.mono (by decide)) (by rfl) D_Lmade.g D_Lmade.F.kp D_Lmade.b .nil pass0 (pa_cons (pv 2) pa_nil)))
   (pss_cons (ps_set (i := 4) sc_law.nd rfl (.inl rfl) (pe_call G_Lthings (hr.mono (by decide)) (by rfl) D_Lthings.g D_Lthings.F.kp D_Lthings.b .nil pass0 (pa_cons (pv 1) (pa_cons (pv 2) (pa_cons pe_int pa_nil)))))
   (pss_cons (ps_set (i := 5) sc_law.nd rfl (.inl rfl) (pe_call G_Lhanded (hr.mono (by decide)) (by rfl) D_Lhanded.g D_Lhanded.F.kp D_Lhanded.b .nil pass0 (pa_cons (pv 4) pa_nil)))
   (pss_cons (ps_set (i := 6) sc_law.nd rfl (.inl rfl) (pe_make MT G_init (hr.mono (by decide)) (by rfl) gT bI .nil pass0 (pa_cons (pv 3) (pa_cons (pv 5) (pa_cons (pe_ix ix_tup (pv 4) pe_int (fun _ _ => rfl)) pa_nil)))))
   (pss_cons (ps_if (pt_not (pt_val (pe_call G_Lsame (hr.mono (by decide)) (by rfl) D_Lsame.g D_Lsame.F.kp D_Lsame.b .nil pass0 (pa_cons (pv 5) (pa_cons (pe_ix ix_tup (pv 4) pe_int (fun _ _ => rfl)) pa_nil)))))
    (pss_one (ps_ret pe_bl))
    pss_nil)
   (pss_cons (ps_for PassesOwn.never rfl (pi_list (pe_callB (call_sortedD rfl) (by rfl) T.n_sorted (by decide +kernel) (pa_cons (pv 5) pa_nil))) (pg_name (i := 7) sc_law.nd rfl (.inl rfl))
    (pss_cons (ps_for PassesOwn.never rfl (pi_list (pe_callB (call_sortedD rfl) (by rfl) T.n_sorted (by decide +kernel) (pa_cons (pe_ix ix_tup (pe_dget hu (pv 5) (pv 7) (fun _ _ => rfl)) pe_int (fun _ _ => rfl)) pa_nil))) (pg_name (i := 8) sc_law.nd rfl (.inl rfl))
     (pss_one (ps_expr (pe_call G_Lchanged (hr.mono (by decide)) (by rfl) D_Lchanged.g D_Lchanged.F.kp D_Lchanged.b .nil pass0 (pa_cons (pe_dget hu (pe_ix ix_tup (pe_dget hu (pv 5) (pv 7) (fun _ _ => rfl)) pe_int (fun _ _ => rfl)) (pv 8) (fun _ _ => rfl)) pa_nil)))))
    (pss_one (ps_expr (pe_bm0 PySem.F.plainAttrs_dict PySem.F.slot_dict_clear PySem.F.type_dict_clear mt_clear (pe_ix ix_tup (pe_dget hu (pv 5) (pv 7) (fun _ _ => rfl)) pe_int (fun _ _ => rfl)))))))
   (pss_cons (ps_expr (pe_bm0 PySem.F.plainAttrs_dict PySem.F.slot_dict_clear PySem.F.type_dict_clear mt_clear (pv 5)))
   (pss_cons (ps_set (i := 9) sc_law.nd rfl (.inl rfl) (pe_callB (call_sortedD rfl) (by rfl) T.n_sorted (by decide +kernel) (pa_cons (pe_ix ix_tup (pv 4) pe_int (fun _ _ => rfl)) pa_nil)))
   (pss_cons (ps_for PassesOwn.never rfl (pi_range1 (by rfl) T.n_range (pa_cons pe_int pa_nil)) (pg_name (i := 10) sc_law.nd rfl (.inl rfl))
    (pss_cons (ps_if (PW.pt (pw_or (pt_not (pt_val (pe_call G_Lsame (hr.mono (by decide)) (by rfl) D_Lsame.g D_Lsame.F.kp D_Lsame.b .nil pass0 (pa_cons (pe_meth0 (pv 6) LT.cl M_things.m G_things (hr.mono (by decide)) M_things.b .nil pass0) (pa_cons (pv 9) pa_nil))))) (pw_or1 (pt_not (pt_val (pe_call G_Lsame (hr.mono (by decide)) (by rfl) D_Lsame.g D_Lsame.F.kp D_Lsame.b .nil pass0 (pa_cons (pe_fld (pv 6) rfl) (pa_cons (pe_ix ix_tup (pv 4) pe_int (fun _ _ => rfl)) pa_nil))))))))
     (pss_one (ps_ret pe_bl))
     pss_nil)
    (pss_cons (ps_expr (pe_bm PySem.F.plainAttrs_list PySem.F.slot_list_append PySem.F.type_list_append mt_append (pe_meth0 (pv 6) LT.cl M_things.m G_things (hr.mono (by decide)) M_things.b .nil pass0) (pa_cons pe_str pa_nil)))
    (pss_one (ps_for PassesOwn.never rfl (pi_list (pv 9)) (pg_name (i := 7) sc_law.nd rfl (.inl rfl))
     (pss_cons (ps_if (pt_not (pt_val (pe_call G_Lsame (hr.mono (by decide)) (by rfl) D_Lsame.g D_Lsame.F.kp D_Lsame.b .nil pass0 (pa_cons (pe_methX (pv 6) LT.cl M_kind_of.m G_kind_of (hr.mono (by decide)) M_kind_of.b (fun σ => passAE) (pa_cons (pv 7) pa_nil)) (pa_cons (pe_ix ix_tup (pe_dget hu (pe_ix ix_tup (pv 4) pe_int (fun _ _ => rfl)) (pv 7) (fun _ _ => rfl)) pe_int (fun _ _ => rfl)) pa_nil)))))
      (pss_one (ps_ret pe_bl))
      pss_nil)
     (pss_cons (ps_set (i := 11) sc_law.nd rfl (.inl rfl) (pe_ix ix_tup (pe_dget hu (pe_ix ix_tup (pv 4) pe_int (fun _ _ => rfl)) (pv 7) (fun _ _ => rfl)) pe_int (fun _ _ => rfl)))
     (pss_one (ps_for PassesOwn.never rfl (pi_list (pe_callB (call_sortedD rfl) (by rfl) T.n_sorted (by decide +kernel) (pa_cons (pv 11) pa_nil))) (pg_name (i := 8) sc_law.nd rfl (.inl rfl))
      (pss_cons (ps_set (i := 12) sc_law.nd rfl (.inl rfl) (pe_methX (pv 6) LT.cl M_value.m G_value (hr.mono (by decide)) M_value.b (fun σ => passAE) (pa_cons (pv 7) (pa_cons (pv 8) pa_nil))))
      (pss_cons (ps_if (pt_not (pt_val (pe_call G_Lsame (hr.mono (by decide)) (by rfl) D_Lsame.g D_Lsame.F.kp D_Lsame.b .nil pass0 (pa_cons (pv 12) (pa_cons (pe_dget hu (pv 11) (pv 8) (fun _ _ => rfl)) pa_nil)))))
       (pss_one (ps_ret pe_bl))
       pss_nil)
      (pss_one (ps_expr (pe_call G_Lchanged (hr.mono (by decide)) (by rfl) D_Lchanged.g D_Lchanged.F.kp D_Lchanged.b .nil pass0 (pa_cons (pv 12) pa_nil)))))))))))))))
   (pss_cons (ps_set (i := 7) sc_law.nd rfl (.inl rfl) (pe_ix ix_list (pe_lst (pa_cons (pe_call G_Lstrange (hr.mono (by decide)) (by rfl) D_Lstrange.g D_Lstrange.F.kp D_Lstrange.b .nil pass0 (pa_cons (pv 1) pa_nil)) (pa_cons (pe_call G_Lpick (hr.mono (by decide)) (by rfl) D_Lpick.g D_Lpick.F.kp D_Lpick.b .nil pass0 (pa_cons (pv 1) (pa_cons (pv 9) pa_nil))) pa_nil))) (pe_call G_Ldraw (hr.mono (by decide)) (by rfl) D_Ldraw.g D_Ldraw.F.kp D_Ldraw.b .nil pass0 (pa_cons (pv 1) (pa_cons pe_int pa_nil))) (fun _ _ => rfl)))
   (pss_cons (ps_set (i := 8) sc_law.nd rfl (.inl rfl) (pe_ix ix_list (pe_lst (pa_cons (pe_call G_Lstrange (hr.mono (by decide)) (by rfl) D_Lstrange.g D_Lstrange.F.kp D_Lstrange.b .nil pass0 (pa_cons (pv 1) pa_nil)) (pa_cons (pe_ix ix_list (pe_call G_Lwords (hr.mono (by decide)) (by rfl) D_Lwords.g D_Lwords.F.kp D_Lwords.b .nil pass0 (pa_cons (pv 1) (pa_cons pe_int pa_nil))) pe_int (fun _ _ => rfl)) pa_nil))) (pe_call G_Ldraw (hr.mono (by decide)) (by rfl) D_Ldraw.g D_Ldraw.F.kp D_Ldraw.b .nil pass0 (pa_cons (pv 1) (pa_cons pe_int pa_nil))) (fun _ _ => rfl)))
   (pss_cons (ps_set (i := 13) sc_law.nd rfl (.inl rfl) (pe_tup (pa_cons pe_str (pa_cons (pv 7) pa_nil))))
   (pss_cons (ps_mono (ps_if (PW.pt (pw_and (pt_val (pe_callB call_isi (by rfl) T.n_isinstance (by decide +kernel) (pa_cons (pv 7) (pa_cons (pe_bltn (v := .ty "str") (by rfl) T.n_str (by decide +kernel) rfl) pa_nil)))) (pw_and1 (pt_cmp (pc_din hu (pv 7) (pe_ix ix_tup (pv 4) pe_int (fun _ _ => rfl))) rfl))))
    (pss_cons (ps_set (i := 13) sc_law.nd rfl (.inl rfl) (pe_tup (pa_cons pe_str (pa_cons (pe_ix ix_tup (pe_dget hu (pe_ix ix_tup (pv 4) pe_int (fun _ _ => rfl)) (pv 7) (fun _ _ => rfl)) pe_int (fun _ _ => rfl)) (pa_cons (pv 8) pa_nil)))))
    (pss_one (ps_if (pt_cmpR op_isN (pv 8) pe_non (nomark _))
     (pss_one (ps_set (i := 13) sc_law.nd rfl (.inl rfl) (pe_tup (pa_cons pe_str (pa_cons (pe_ix ix_tup (pe_dget hu (pe_ix ix_tup (pv 4) pe_int (fun _ _ => rfl)) (pv 7) (fun _ _ => rfl)) pe_int (fun _ _ => rfl)) pa_nil)))))
     (pss_one (ps_if (PW.pt (pw_and (pt_val (pe_callB call_isi (by rfl) T.n_isinstance (by decide +kernel) (pa_cons (pv 8) (pa_cons (pe_bltn (v := .ty "str") (by rfl) T.n_str (by decide +kernel) rfl) pa_nil)))) (pw_and1 (pt_cmp (pc_din hu (pv 8) (pe_ix ix_tup (pe_dget hu (pe_ix ix_tup (pv 4) pe_int (fun _ _ => rfl)) (pv 7) (fun _ _ => rfl)) pe_int (fun _ _ => rfl))) rfl))))
      (pss_one (ps_set (i := 13) sc_law.nd rfl (.inl rfl) (pe_tup (pa_cons pe_str (pa_cons (pe_dget hu (pe_ix ix_tup (pe_dget hu (pe_ix ix_tup (pv 4) pe_int (fun _ _ => rfl)) (pv 7) (fun _ _ => rfl)) pe_int (fun _ _ => rfl)) (pv 8) (fun _ _ => rfl)) pa_nil)))))
      pss_nil)))))
    pss_nil))
   (pss_one (ps_ret (pe_and (pe_cmpR (op_eqG (rcG_ins G_eq mE.at_ mE.fn bE pass0) (hr.mono (by decide))) (pe_fld (pv 6) rfl) (pv 3) (nomark _)) (pe_one (pe_call G_Lsame (hr.mono (by decide)) (by rfl) D_Lsame.g D_Lsame.F.kp D_Lsame.b .nil pass0 (pa_cons (pe_call G_Lmissing (hr.mono (by decide)) (by rfl) D_Lmissing.g D_Lmissing.F.kp D_Lmissing.b .nil pass0 (pa_cons (pv 6) (pa_cons (pv 7) (pa_cons (pv 8) pa_nil)))) (pa_cons (pv 13) pa_nil)))))))))))))))))))))), ?_⟩
  refine ⟨.ref a, rfl, a, ns, rfl, ha, hn, fun H1 b r _ _ _ W1 => ?_⟩
  refine ⟨.ref b, rfl, b, r, 3, 6, rfl, W1, by decide, by decide, by decide, fun q kt ft ut ks fs us root H2 hq hsa ok _ _ g2 W2 => ?_⟩
  have sch2 : SchT H2 q kt ft ut ks fs us root := ⟨hq, hsa, ok⟩
  refine ⟨.ref q, rfl, q, kt, ft, ut, ks, fs, us, root, rfl, sch2, fun x H3 Bt3 s3 _ => ?_⟩
  have W3 := W2.same s3
  have sch3 := sch2.same s3
  refine ⟨.ref b, rfl, .ref q, rfl, b, r, q, kt, ft, ut, 6, ks, fs, us, root, rfl, W3, sch3, by decide, fun p tt ths first H4 hp htt _ hth so hl9 _ g4 W4 _ => ?_⟩
  have tk4 := g4.tkB W3
  obtain ⟨bxs, ebx3⟩ := W3.lst
  have Bt4 : BuiltAt C H4 x ks fs us root := by
   have hx := Bt3
   obtain ⟨_, _, _, _, _, _, _, hx, _⟩ := hx
   exact BuiltAt.gr (Oth.lst ebx3) g4 (ne_of hx ebx3 (by intro z; cases z)) Bt3
  have nd := so.nd
  have At4 : ∀ y ∈ ths, TRow.At H4 y ∧ y.da ≠ tt := fun y my => ⟨⟨(hth y my).t, (hth y my).d, fun f mf => ((hth y my).v f mf).same (nw_le tk4)⟩, (hth y my).ne⟩
  refine ⟨.ref p, rfl, p, tt, ks, fs, us, root, ths, first, rfl, ok, hp, htt, At4, so, fun hd rs Sf H5 s5 nhd ehd etd hdT => ?_⟩
  have so5 := so.to etd
  have p1 : atI [V.ref tt, .str first] 1 = some (.str first) := atI_nat (j := 1) rfl
  have p0 : atI [V.ref tt, .str first] 0 = some (.ref tt) := atI_nat (j := 0) rfl
  refine ⟨.ref x, rfl, .ref hd, rfl, .ref p, rfl, p, _, 1, _, rfl, rfl, .inl (.inl (s5 _ _ hp)), p1, fun st dx nst ndx nex => ?_⟩
  have s6 : Same H5 (upd (upd H5 dx (.own st)) st (.ins CT dx [])) := fun c o e => by
   rw [upd_ne (ne_of_none e nst), upd_ne (ne_of_none e ndx)]
   exact e
  have est : (upd (upd H5 dx (.own st)) st (.ins CT dx [])) st = some (.ins CT dx []) := upd_same
  generalize upd (upd H5 dx (.own st)) st (.ins CT dx []) = H6 at s6 est
  have s46 := s5.trans s6
  refine ⟨st, dx, x, hd, ks, fs, us, root, rs, first, rfl, est, Bt4.same s46, ok, s6 _ _ ehd, fun y my => ⟨⟨s6 _ _ (hdT.r y my).t, s6 _ _ (hdT.r y my).d, fun f mf => ((hdT.r y my).v f mf).va.same s6⟩, (hdT.r y my).ne⟩, so5, fun H7 ths' g7 sa7 etd7 new7 tb7 => ⟨rfl, ?_⟩⟩
  have gst : Same H5 H7 := fun c o e => g7 _ _ (ne_of_none e nst) (s6 _ _ e)
  have s47 := s5.trans gst
  have few : ∀ r ∈ ths, (r.vs.map (·.1)).Nodup ∧ r.vs.length ≤ 5 := fun r mr => by
   refine ⟨so.fnd ok mr, ?_⟩
   have h1 := (so.fd r mr).length_eq
   have h2 := fds_few ok (fds_ex (ks := ks) (fs := fs) (z := r.kd))
   rw [List.length_map, List.length_map] at h1
   omega
  have n12 := so.n12
  have sm := things_sameV (gst _ _ ehd) (s47 _ _ htt) etd nd (by omega) (fun r mr => ⟨(few r mr).1, by have := (few r mr).2; omega⟩)
   (fun y my => ⟨gst _ _ (hdT.r y my).t, gst _ _ (hdT.r y my).d, (ne_of_none htt (hdT.r y my).n).symm, fun f mf => ((hdT.r y my).v f mf).va.same gst⟩)
   (fun y my => ⟨s47 _ _ (At4 y my).1.t, s47 _ _ (At4 y my).1.d, (At4 y my).2, fun f mf => ((At4 y my).1.v f mf).same s47⟩)
  refine ⟨.ref hd, rfl, .ref p, rfl, p, _, 0, _, rfl, rfl, .inl (.inl (s47 _ _ hp)), p0, .ref hd, .ref tt, rfl, sm, fun H8 s8 => ⟨true, rfl, iteF ?_⟩⟩
  obtain ⟨M, hM⟩ : ∃ M : Addr → Prop, ∀ a, M a ↔ ((∃ y z, a ∈ Sf y z) ∨ (∃ y ∈ rs, a = y.da) ∨ a = hd) := ⟨_, fun _ => Iff.rfl⟩
  have M4 : ∀ a, M a → H4 a = none := fun a m => by
   rcases (hM a).mp m with ⟨y, z, m⟩ | ⟨y, my, rfl⟩ | rfl
   ·exact hdT.s.new _ _ _ m
   ·exact (hdT.r y my).n
   ·exact nhd
  have M5 : ∀ a, M a → ∃ o, H5 a = some o ∧ ∀ xs, o ≠ .tup xs := fun a m => by
   rcases (hM a).mp m with ⟨y, z, m⟩ | ⟨y, my, rfl⟩ | rfl
   ·obtain ⟨xs, e⟩ := hdT.s.has _ _ _ m
    exact ⟨_, e, fun ys z => by cases z⟩
   ·exact ⟨_, (hdT.r y my).d, fun ys z => by cases z⟩
   ·exact ⟨_, ehd, fun ys z => by cases z⟩
  have s58 := gst.trans s8
  have s48 := s5.trans s58
  have rnd : (rs.map (·.nm)).Nodup := so5.nd
  refine ⟨.ref hd, rfl, hd, thkv rs, rs.map (·.nm), rfl, .inl (s58 _ _ ehd), (by unfold thkv; rw [List.map_map, List.map_map]; rfl), by have := so5.n12; rw [List.length_map]; omega, fun nl pa pm _ npa => ?_⟩
  have s9 := same_new (o := .lst (nl.map V.str)) npa
  have e9 : (upd H8 pa (.lst (nl.map V.str))) pa = some (.lst (nl.map V.str)) := upd_same
  generalize upd H8 pa (.lst (nl.map V.str)) = H9 at s9 e9
  have s59 := s58.trans s9
  have nMpa : ¬ M pa := fun m => by
   obtain ⟨o, e, _⟩ := M5 pa m
   rw [s58 _ _ e] at npa
   cases npa
  have nlnd : nl.Nodup := pm.nodup_iff.mpr rnd
  have MI0 : MI H9 M hd rs Sf (fun z => z ∈ nl.take 0) (fun _ _ => False) H9 := ⟨fun a o e _ => e, s59 _ _ ehd, fun y my => s59 _ _ (hdT.r y my).t, fun y my _ => s59 _ _ (hdT.r y my).d, fun y my _ f mf _ => ((hdT.r y my).v f mf).same s59, fun a m => by obtain ⟨o, e, _⟩ := M5 a m; exact ⟨o, s59 _ _ e⟩⟩
  refine ⟨pa, rfl, ⟨_, SqL.of e9⟩, for_it (walk_list (xs := nl.map V.str)) (fun i σ H' => ∃ y7 y8 : Option V, σ = [some (.ref a), some (.ref b), some (.ref q), some (.ref x), some (.ref p), some (.ref hd), some (.ref st), y7, y8, none, none, none, none, none] ∧ MI H9 M hd rs Sf (fun z => z ∈ nl.take i) (fun _ _ => False) H') ⟨_, _, rfl, MI0⟩ ?_ ?_ ?_⟩
  ·rintro i σ H' _ ⟨_, _, _, m⟩
   exact SqL.of (m.k _ _ e9 nMpa)
  ·rintro i v σ H10' H10 hi ⟨y7, y8, rfl, m10⟩ ⟨rfl, ev⟩
   rw [List.length_map] at hi
   have ec : nl[i]? = some nl[i] := List.getElem?_eq_getElem hi
   rw [List.getElem?_map, ec] at ev
   cases ev
   obtain ⟨y, my, ey⟩ := List.mem_map.mp (pm.mem_iff.mp (List.mem_of_getElem? ec))
   generalize nl[i] = c at ec ey
   subst ey
   have nc : y.nm ∉ nl.take i := take_newE nlnd ec
   have hy := hdT.r y my
   have hval := thkv_val rnd my
   obtain ⟨yt, mt, ynm, ykd, yvs⟩ := tdat_ex etd my
   have ynd : (y.vs.map (·.1)).Nodup := so5.fnd ok my
   have yl : y.vs.length ≤ 5 := by
    have h1 := (so5.fd y my).length_eq
    have h2 := fds_few ok (fds_ex (ks := ks) (fs := fs) (z := y.kd))
    rw [List.length_map, List.length_map] at h1
    omega
   have hda : M y.da := (hM _).mpr (.inr (.inl ⟨y, my, rfl⟩))
   refine ⟨.ref hd, rfl, .str y.nm, rfl, hd, .ref y.t, rfl, .inl ⟨thkv rs, .inr y.nm, .inl m10.h, rfl, hval.symm⟩, y.t, _, 1, _, rfl, rfl, .inl (.inl (m10.t y my)), atI_nat (j := 1) rfl, y.da, vkv y.vs, y.vs.map (·.1), rfl, .inl (m10.d y my nc), (by unfold vkv; rw [List.map_map, List.map_map]; rfl), by rw [List.length_map]; omega, fun fl pf pmf _ npf => ?_⟩
   have s11 := same_new (o := .lst (fl.map V.str)) npf
   have e11 : (upd H10 pf (.lst (fl.map V.str))) pf = some (.lst (fl.map V.str)) := upd_same
   generalize upd H10 pf (.lst (fl.map V.str)) = H11 at s11 e11
   have nMpf : ¬ M pf := fun m => by
    obtain ⟨o, e⟩ := m10.al pf m
    rw [e] at npf
    cases npf
   have flnd : fl.Nodup := pmf.nodup_iff.mpr ynd
   refine ⟨pf, rfl, ⟨_, SqL.of e11⟩, for_it (walk_list (xs := fl.map V.str)) (fun j σ H' => ∃ y8 : Option V, σ = [some (.ref a), some (.ref b), some (.ref q), some (.ref x), some (.ref p), some (.ref hd), some (.ref st), some (.str y.nm), y8, none, none, none, none, none] ∧ H' pf = some (.lst (fl.map V.str)) ∧ MI H9 M hd rs Sf (fun z => z ∈ nl.take i) (fun u z => u = y.nm ∧ z ∈ fl.take j) H') ⟨_, rfl, e11, (m10.same s11).weak (fun _ z => z) fun _ _ _ z => z.elim⟩ ?_ ?_ ?_⟩
   ·rintro j σ H' _ ⟨_, _, e, _⟩
    exact SqL.of e
   ·rintro j v σ H12' H12 hj ⟨y8', rfl, e12, m12⟩ ⟨rfl, ev⟩
    rw [List.length_map] at hj
    have ef : fl[j]? = some fl[j] := List.getElem?_eq_getElem hj
    rw [List.getElem?_map, ef] at ev
    cases ev
    obtain ⟨g, mg, eg⟩ := List.mem_map.mp (pmf.mem_iff.mp (List.mem_of_getElem? ef))
    generalize fl[j] = fz at ef eg
    have eg : g.1 = fz := eg
    subst eg
    have nf : g.1 ∉ fl.take j := take_newE flnd ef
    have vt := m12.v y my nc g mg fun z => nf z.2
    refine ⟨.ref hd, rfl, .str y.nm, rfl, hd, .ref y.t, rfl, .inl ⟨thkv rs, .inr y.nm, .inl m12.h, rfl, hval.symm⟩, y.t, _, 1, _, rfl, rfl, .inl (.inl (m12.t y my)), atI_nat (j := 1) rfl, .str g.1, rfl, y.da, g.2.1, rfl, .inl ⟨vkv y.vs, .inr g.1, .inl (m12.d y my nc), rfl, (vkv_val ynd mg).symm⟩, g.2.1, g.2.2, Sf y.nm g.1, rfl, vt, hdT.s.nd _ _, fun H13 o13 => ⟨_, rfl, ?_, ?_⟩⟩
    ·exact o13.1 _ _ e12 fun m => nMpf ((hM _).mpr (.inl ⟨_, _, m⟩))
    ·refine (m12.off vt.has (fun u mu => (hM _).mpr (.inl ⟨_, _, mu⟩)) hdT.s.dj o13).weak (fun _ z => z) fun u z _ h => ?_
     rw [List.take_add_one, ef]
     rcases h with ⟨h1, h2⟩ | ⟨h1, h2⟩
     ·exact ⟨h1, List.mem_append_left _ h2⟩
     ·exact ⟨h1, List.mem_append_right _ (by rw [h2]; exact List.mem_singleton.mpr rfl)⟩
   ·rintro σ H12 ⟨y8', rfl, e12, m12⟩
    have hd12 := m12.d y my nc
    refine ⟨.ref hd, rfl, .str y.nm, rfl, hd, .ref y.t, rfl, .inl ⟨thkv rs, .inr y.nm, .inl m12.h, rfl, hval.symm⟩, y.t, _, 1, _, rfl, rfl, .inl (.inl (m12.t y my)), atI_nat (j := 1) rfl, .inr (.inr (.inl ⟨rfl, .inl ⟨_, hd12⟩⟩)), y.da, vkv y.vs, rfl, rfl, hd12, _, _, rfl, ?_⟩
    refine (m12.clear my hd12 hda hy.ne hdT.dd rnd).weak (fun z hz => ?_) (fun u z hn h => ?_)
    ·rw [List.take_add_one, ec]
     rcases hz with hz | hz
     ·exact List.mem_append_left _ hz
     ·exact List.mem_append_right _ (by rw [hz]; exact List.mem_singleton.mpr rfl)
    ·rw [List.take_add_one, ec] at hn
     exact hn (List.mem_append_right _ (by rw [h.1]; exact List.mem_singleton.mpr rfl))
  rintro σ H19 ⟨y7, y8, rfl, m19⟩
  refine ⟨.ref hd, rfl, .inr (.inr (.inl ⟨rfl, .inl ⟨_, m19.h⟩⟩)), hd, thkv rs, rfl, rfl, m19.h, ?_⟩
  have k20 : ∀ c o, H9 c = some o → ¬ M c → (upd H19 hd (.dK [])) c = some o := fun c o e n => by
   rw [upd_ne (fun z => n (by rw [z]; exact (hM _).mpr (.inr (.inr rfl))))]
   exact m19.k c o e n
  generalize upd H19 hd (.dK []) = H20 at k20
  have s89 := s8.trans s9
  have s420 : Same H4 H20 := fun c o e => k20 c o (s9 _ _ (s48 _ _ e)) fun m => by
   rw [M4 c m] at e
   cases e
  have M6 : ∀ c, H6 c = none → ¬ M c := fun c e m => by
   obtain ⟨o, e5, _⟩ := M5 c m
   rw [s6 _ _ e5] at e
   cases e
  have Mt7 : ∀ c xs, H7 c = some (.tup xs) → ¬ M c := fun c xs e m => by
   obtain ⟨o, e5, n⟩ := M5 c m
   rw [gst _ _ e5] at e
   exact n xs (Option.some.inj e)
  have k720 : ∀ c o, H7 c = some o → ¬ M c → H20 c = some o := fun c o e n => k20 c o (s89 _ _ e) n
  have sN : Same (nw H6 H7) H20 := fun c o e => by
   rcases nw_some e with ⟨h, e7⟩ | ⟨xs, h, rfl⟩
   ·exact k720 c o e7 (M6 c h)
   ·have e7 := g7 c _ (ne_of h est (by intro z; cases z)) h
    exact k720 c _ e7 (Mt7 c xs e7)
  have S20 : StoAt CT (nw H6 H7) H20 st x first ths' := by
   obtain ⟨dx', tb, h1, h2⟩ := sa7.o
   have nMst : ¬ M st := fun m => by
    obtain ⟨o, e5, _⟩ := M5 st m
    rw [e5] at nst
    cases nst
   exact ⟨⟨dx', tb, k720 _ _ h1 nMst, k720 _ _ h2 (M6 _ (tb7 _ _ h1))⟩, fun r mr => ⟨k720 _ _ (sa7.t r mr).1 (Mt7 _ _ (sa7.t r mr).1), k720 _ _ (sa7.t r mr).2 (M6 _ (new7 r mr))⟩, sa7.v⟩
  have etd' : tdat ths' = tdat ths := etd7.trans etd
  clear m19 k20 k720 MI0 M4 M5 M6 Mt7 hM
  refine ⟨.ref p, rfl, p, _, 0, _, rfl, rfl, .inl (.inl (s420 _ _ hp)), p0, tt, thkv ths, ths.map (·.nm), rfl, .inl (s420 _ _ htt), (by unfold thkv; rw [List.map_map, List.map_map]; rfl), by rw [List.length_map]; omega, fun tl pt pmt sot npt => ?_⟩
  have s21 := same_new (o := .lst (tl.map V.str)) npt
  have e21 : (upd H20 pt (.lst (tl.map V.str))) pt = some (.lst (tl.map V.str)) := upd_same
  generalize upd H20 pt (.lst (tl.map V.str)) = H21 at s21 e21
  have s421 := s420.trans s21
  have sN21 := sN.trans s21
  have S21 : StoAt CT (nw H6 H7) H21 st x first ths' := S20.same (Same.refl _) s21
  have nm' : ths'.map (·.nm) = ths.map (·.nm) := tdat_nm etd'
  have nd' : (ths'.map (·.nm)).Nodup := by rw [nm']; exact nd
  have l12 : ths'.length ≤ 12 := by rw [tdat_len etd']; exact n12
  have tll : tl.length ≤ 12 := by rw [pmt.length_eq, List.length_map]; exact n12
  obtain ⟨dxs, tbs, hst21, htb21⟩ := S21.o
  have stX : ∀ {m : Str}, ¬ m = "schema" → ¬ m = "first" → ¬ m = "thing_table" → (stfs x first tbs).lookup m = none := stn
  have hp21 := s421 _ _ hp
  have htt21 := s421 _ _ htt
  refine ⟨2, rfl, by decide, by decide, for_range (lo := 0) (n := 2) (fun i σ H' => ∃ y7 y8 y10 y11 y12 : Option V, σ = [some (.ref a), some (.ref b), some (.ref q), some (.ref x), some (.ref p), some (.ref hd), some (.ref st), y7, y8, some (.ref pt), y10, y11, y12, none] ∧ Same H21 H') ⟨_, _, _, _, _, rfl, Same.refl _⟩ ?_ ?_⟩
  ·rintro t σ H22 ht ⟨y7, y8, y10, y11, y12, rfl, s22⟩
   refine ⟨.ref st, rfl, st, dxs, _, rfl, s22 _ _ hst21, stX (by decide +kernel) (by decide +kernel) (by decide +kernel), _, st, x, first, ths', rfl, S21.same (Same.refl _) s22, l12, fun l1 q1 H23 pm1 so1 s23 n23 e23 => ?_⟩
   have el1 : l1 = tl := sorted_one so1 sot (pm1.trans (by rw [nm']; exact pmt.symm))
   have s2123 := s22.trans s23
   refine ⟨.ref pt, rfl, .ref q1, .ref pt, rfl, strs_sameV (l := tl) (by rw [← el1]; exact e23) (s2123 _ _ e21) (by omega), fun H24 s24 => ⟨true, rfl, iteF ?_⟩⟩
   have s2124 := s2123.trans s24
   refine ⟨.ref st, rfl, st, CT, dxs, _, _, rfl, s2124 _ _ hst21, LT.cl, LT.n2, stl2, .ref p, rfl, p, _, 1, _, rfl, rfl, .inl (.inl (s2124 _ _ hp21)), p1, .str first, .str first, rfl, SameL.sc (.inr (.inr (.inr ⟨_, rfl⟩))), fun H25 s25 => ⟨true, rfl, iteF ?_⟩⟩
   have s2125 := s2124.trans s25
   refine ⟨.ref st, rfl, st, dxs, _, rfl, s2125 _ _ hst21, stX (by decide +kernel) (by decide +kernel) (by decide +kernel), _, st, x, first, ths', rfl, S21.same (Same.refl _) s2125, l12, fun l2 q2 H26 pm2 so2 s26 n26 e26 => ⟨.inl ⟨rfl, _, SqL.of e26⟩, q2, _, _, rfl, rfl, e26, lt _ (by rw [List.length_map, pm2.length_eq, List.length_map]; omega), ?_⟩⟩
   have s2127 : Same H21 (upd H26 q2 (.lst (l2.map V.str ++ [.str "xa"]))) := s2125.trans (same_upd s26 n26)
   generalize upd H26 q2 (.lst (l2.map V.str ++ [.str "xa"])) = H27 at s2127
   refine ⟨.ref pt, rfl, pt, rfl, ⟨_, SqL.of (s2127 _ _ e21)⟩, for_it (walk_list (xs := tl.map V.str)) (fun i σ H' => ∃ y7 y8 y11 y12 : Option V, σ = [some (.ref a), some (.ref b), some (.ref q), some (.ref x), some (.ref p), some (.ref hd), some (.ref st), y7, y8, some (.ref pt), some (.int (0 + (t : Int))), y11, y12, none] ∧ Same H21 H') ⟨_, _, _, _, rfl, s2127⟩ ?_ ?_ ?_⟩
   ·rintro i σ H' _ ⟨_, _, _, _, _, s'⟩
    exact SqL.of (s' _ _ e21)
   ·rintro i v σ H28' H28 hi ⟨y7, y8, y11, y12, rfl, s28⟩ ⟨rfl, ev⟩
    rw [List.length_map] at hi
    have ec : tl[i]? = some tl[i] := List.getElem?_eq_getElem hi
    rw [List.getElem?_map, ec] at ev
    cases ev
    obtain ⟨r, mr, er⟩ := List.mem_map.mp (pmt.mem_iff.mp (List.mem_of_getElem? ec))
    generalize tl[i] = c at ec er
    have er : r.nm = c := er
    subst er
    obtain ⟨r', mr', rn', rk', rv'⟩ := tdat_ex etd'.symm mr
    have Ar := (At4 r mr).1
    have hval := thkv_val nd mr
    have rnd := (few r mr).1
    have enm : r'.vs.map (·.1) = r.vs.map (·.1) := by rw [← vdat_names, rv', vdat_names]
    refine ⟨.ref st, rfl, st, dxs, _, rfl, s28 _ _ hst21, stX (by decide +kernel) (by decide +kernel) (by decide +kernel), .str r.nm, rfl, _, st, x, first, ths', .str r.nm, rfl, S21.same (Same.refl _) s28, nd', .inl ⟨r', mr', congrArg V.str rn'.symm, ?_⟩⟩
    refine ⟨.ref p, rfl, p, _, 0, _, rfl, rfl, .inl (.inl (s28 _ _ hp21)), p0, .str r.nm, rfl, tt, .ref r.t, rfl, .inl ⟨thkv ths, .inr r.nm, .inl (s28 _ _ htt21), rfl, hval.symm⟩, r.t, _, 0, _, rfl, rfl, .inl (.inl (s28 _ _ (s421 _ _ Ar.t))), atI_nat (j := 0) rfl, .str r'.kd, .str r.kd, rfl, (by rw [rk']; exact SameL.sc (.inr (.inr (.inr ⟨_, rfl⟩)))), fun H29 s29 => ⟨true, rfl, iteF ?_⟩⟩
    have s2129 := s28.trans s29
    refine ⟨.ref p, rfl, p, _, 0, _, rfl, rfl, .inl (.inl (s2129 _ _ hp21)), p0, .str r.nm, rfl, tt, .ref r.t, rfl, .inl ⟨thkv ths, .inr r.nm, .inl (s2129 _ _ htt21), rfl, hval.symm⟩, r.t, _, 1, _, rfl, rfl, .inl (.inl (s2129 _ _ (s421 _ _ Ar.t))), atI_nat (j := 1) rfl, ?_⟩
    refine ⟨.ref r.da, rfl, r.da, vkv r.vs, r.vs.map (·.1), rfl, .inl (s2129 _ _ (s421 _ _ Ar.d)), (by unfold vkv; rw [List.map_map, List.map_map]; rfl), by rw [List.length_map]; have := (few r mr).2; omega, fun fl pf pmf _ npf => ?_⟩
    have s30 := same_new (o := .lst (fl.map V.str)) npf
    have e30 : (upd H29 pf (.lst (fl.map V.str))) pf = some (.lst (fl.map V.str)) := upd_same
    generalize upd H29 pf (.lst (fl.map V.str)) = H30 at s30 e30
    refine ⟨pf, rfl, ⟨_, SqL.of e30⟩, for_it (walk_list (xs := fl.map V.str)) (fun j σ H' => ∃ y8 y12 : Option V, σ = [some (.ref a), some (.ref b), some (.ref q), some (.ref x), some (.ref p), some (.ref hd), some (.ref st), some (.str r.nm), y8, some (.ref pt), some (.int (0 + (t : Int))), some (.ref r.da), y12, none] ∧ Same H21 H' ∧ H' pf = some (.lst (fl.map V.str))) ⟨_, _, rfl, s2129.trans s30, e30⟩ ?_ ?_ ?_⟩
    ·rintro j σ H' _ ⟨_, _, _, _, e⟩
     exact SqL.of e
    ·rintro j v σ H31' H31 hj ⟨y8', y12', rfl, s31, e31⟩ ⟨rfl, ev⟩
     rw [List.length_map] at hj
     have ef : fl[j]? = some fl[j] := List.getElem?_eq_getElem hj
     rw [List.getElem?_map, ef] at ev
     cases ev
     obtain ⟨g, mg, eg⟩ := List.mem_map.mp (pmf.mem_iff.mp (List.mem_of_getElem? ef))
     generalize fl[j] = fz at ef eg
     have eg : g.1 = fz := eg
     subst eg
     obtain ⟨g', mg', g1', g2'⟩ := vdat_ex rv'.symm mg
     refine ⟨.ref st, rfl, st, dxs, _, rfl, s31 _ _ hst21, stX (by decide +kernel) (by decide +kernel) (by decide +kernel), .str r.nm, rfl, .str g.1, rfl, _, st, x, first, ths', .str r.nm, .str g.1, rfl, S21.same (Same.refl _) s31, sN21.trans s31, nd', .inl ⟨r', mr', congrArg V.str rn'.symm, (by rw [enm]; exact rnd), .inl ⟨g', mg', congrArg V.str g1'.symm, fun v S' H32 s32 vt ndS nwS => ?_⟩⟩⟩
     have s2132 := s31.trans s32
     have hv4 := ((Ar.v g mg).same s421).same s2132
     have va2 := vt.va
     rw [g2'] at va2
     refine ⟨v, rfl, .ref r.da, rfl, .str g.1, rfl, r.da, g.2.1, rfl, .inl ⟨vkv r.vs, .inr g.1, .inl (s2132 _ _ (s421 _ _ Ar.d)), rfl, (vkv_val rnd mg).symm⟩, v, g.2.1, rfl, SameL.upTo (va2.sameL [] hv4) (by decide), fun H33 s33 => ⟨true, rfl, iteF ?_⟩⟩
     refine ⟨v, rfl, v, _, S', rfl, vt.same s33, ndS, fun H34 o34 => ⟨_, _, rfl, fun c o e => ?_, ?_⟩⟩
     ·exact o34.1 c o (s33 _ _ (s2132 c o e)) fun m => by
       have := nwS c m
       rw [s31 _ _ e] at this
       cases this
     ·exact o34.1 pf _ (s33 _ _ (s32 _ _ e31)) fun m => by
       have := nwS pf m
       rw [e31] at this
       cases this
    ·rintro σ H31 ⟨y8', y12', rfl, s31, _⟩
     exact ⟨_, _, _, _, rfl, s31⟩
   ·rintro σ H28 ⟨y7, y8, y11, y12, rfl, s28⟩
    exact ⟨_, _, _, _, _, rfl, s28⟩
  rintro σ H35 ⟨y7, y8, y10, y11, y12, rfl, s35⟩
  have s435 := s421.trans s35
  have S35 : StoAt CT (nw H6 H7) H35 st x first ths' := S21.same (Same.refl _) s35
  have sN35 := sN21.trans s35
  have W35 := W4.same s435
  have t0 : 0 < tl.length := by rw [pmt.length_eq, List.length_map]; exact so.n1
  have nptb : pt ≠ b := by
   obtain ⟨ys, eb⟩ := W4.lst
   exact (ne_of_none (s420 _ _ eb) npt).symm
  refine ⟨.ref b, rfl, b, r, rfl, W35, fun v1 H36 od1 g36 W36 => ?_⟩
  refine ⟨.ref b, rfl, .ref pt, rfl, b, r, pt, _, rfl, W36, g36 _ _ nptb (s35 _ _ e21), nptb, by rw [List.length_map]; exact t0, by rw [List.length_map]; omega, fun v2 H37 mv2 g37 W37 => ⟨hS 2 (by decide), fun pl npl => ?_⟩⟩
  have s38 := same_new (o := .lst [v1, v2]) npl
  have e38 : (upd H37 pl (.lst [v1, v2])) pl = some (.lst [v1, v2]) := upd_same
  have nplb := W37.neb npl
  generalize upd H37 pl (.lst [v1, v2]) = H38 at s38 e38
  refine ⟨.ref b, rfl, b, r, 2, rfl, W37.same s38, by decide, by decide, fun d H39 d0 d1 g39 W39 => ?_⟩
  obtain ⟨d, rfl⟩ := Int.eq_ofNat_of_zero_le d0
  have g3539 : Gr b H35 H39 := fun c o n e => g39 c o n (s38 _ _ (g37 c o n (g36 c o n e)))
  have hy : ∃ y, atI [v1, v2] (d : Int) = some y ∧ Odd K b H39 y := by
   obtain ⟨z2, _, rfl⟩ := List.mem_map.mp mv2
   match d, d1 with
   | 0, _ => exact ⟨v1, atI_nat (j := 0) rfl, od1.gr fun c o n e => g39 c o n (s38 _ _ (g37 c o n e))⟩
   | 1, _ => exact ⟨_, atI_nat (j := 1) rfl, Odd.str⟩
   | d + 2, d1 => exact absurd d1 (by omega)
  obtain ⟨y, ey, ody⟩ := hy
  refine ⟨pl, _, d, y, rfl, rfl, SqL.of (g39 _ _ nplb e38), ey, ?_⟩
  refine ⟨.ref b, rfl, b, r, rfl, W39, fun u1 H40 odu1 g40 W40 => ?_⟩
  refine ⟨.ref b, rfl, b, r, 1, rfl, W40, by decide, fun ws pw H41 lw _ _ g41 W41 npw epw => ?_⟩
  have w0 : 0 < ws.length := by omega
  refine ⟨pw, _, 0, .str ws[0], rfl, rfl, SqL.of epw, atI_nat (j := 0) (by rw [List.getElem?_map, List.getElem?_eq_getElem w0]; rfl), hS 2 (by decide), fun pl2 npl2 => ?_⟩
  have s42 := same_new (o := .lst [u1, .str ws[0]]) npl2
  have e42 : (upd H41 pl2 (.lst [u1, .str ws[0]])) pl2 = some (.lst [u1, .str ws[0]]) := upd_same
  have npl2b := W41.neb npl2
  generalize upd H41 pl2 (.lst [u1, .str ws[0]]) = H42 at s42 e42
  refine ⟨.ref b, rfl, b, r, 2, rfl, W41.same s42, by decide, by decide, fun d H44 d0 d1 g44 W44 => ?_⟩
  obtain ⟨d, rfl⟩ := Int.eq_ofNat_of_zero_le d0
  have g3944 : Gr b H39 H44 := fun c o n e => g44 c o n (s42 _ _ (g41 c o n (g40 c o n e)))
  have hu' : ∃ u, atI [u1, .str ws[0]] (d : Int) = some u ∧ Odd K b H44 u := by
   match d, d1 with
   | 0, _ => exact ⟨u1, atI_nat (j := 0) rfl, odu1.gr fun c o n e => g44 c o n (s42 _ _ (g41 c o n e))⟩
   | 1, _ => exact ⟨_, atI_nat (j := 1) rfl, Odd.str⟩
   | d + 2, d1 => exact absurd d1 (by omega)
  obtain ⟨u, eu, odu⟩ := hu'
  refine ⟨pl2, _, d, u, rfl, rfl, SqL.of (g44 _ _ npl2b e42), eu, ?_⟩
  have ody := ody.gr g3944
  have g := g3539.trans g3944
  clear g3539 g3944 ey eu od1 odu1 e38 e42 mv2
  obtain ⟨bys, eb35⟩ := W35.lst
  have hp44 := g _ _ (ne_of (s435 _ _ hp) eb35 (by intro z; cases z)) (s435 _ _ hp)
  have htt44 := g _ _ (ne_of (s435 _ _ htt) eb35 (by intro z; cases z)) (s435 _ _ htt)
  have ht44 : ∀ r ∈ ths, H44 r.t = some (.tup [.str r.kd, .ref r.da]) := fun r mr => g _ _ (ne_of (s435 _ _ (At4 r mr).1.t) eb35 (by intro z; cases z)) (s435 _ _ (At4 r mr).1.t)
  have hd44 : ∀ r ∈ ths, H44 r.da = some (.dK (vkv r.vs)) := fun r mr => g _ _ (ne_of (s435 _ _ (At4 r mr).1.d) eb35 (by intro z; cases z)) (s435 _ _ (At4 r mr).1.d)
  have tk344 : Tk H3 H44 := fun c xs e => g.tkB W35 _ _ (s435 _ _ (tk4 _ _ e))
  have va44 : ∀ r ∈ ths, ∀ f ∈ r.vs, VA H44 4 f.2.1 f.2.2 := fun r mr f mf => (((hth r mr).v f mf).ltB W3 (fun c o n _ e => g c o n (s435 _ _ e))).same (nw_le tk344)
  have S44 : StoAt CT (nw H6 H7) H44 st x first ths' := by
   obtain ⟨dx', tb, h1, h2⟩ := S35.o
   exact ⟨⟨dx', tb, g _ _ (ne_of h1 eb35 (by intro z; cases z)) h1, g _ _ (ne_of h2 eb35 (by intro z; cases z)) h2⟩, fun r mr => ⟨g _ _ (ne_of (S35.t r mr).1 eb35 (by intro z; cases z)) (S35.t r mr).1, g _ _ (ne_of (S35.t r mr).2 eb35 (by intro z; cases z)) (S35.t r mr).2⟩, S35.v⟩
  have sN44 : Same (nw H6 H7) H44 := fun c o e => by
   refine g c o (fun z => ?_) (sN35 c o e)
   subst z
   obtain ⟨ys, e4⟩ := W4.lst
   rcases nw_some e with ⟨h, _⟩ | ⟨xs, h, _⟩
   ·rw [s46 _ _ e4] at h
    cases h
   ·rw [s46 _ _ e4] at h
    cases h
  have Bt44 : BuiltAt C H44 x ks fs us root := by
   have B35 := Bt4.same s435
   have hx := B35
   obtain ⟨_, _, _, _, _, _, _, hx, _⟩ := hx
   exact BuiltAt.gr (Oth.lst eb35) g (ne_of hx eb35 (by intro z; cases z)) B35
  refine ⟨y, rfl, hS 2 (by decide), fun pd npd => ?_⟩
  have s45 := same_new (o := .tup [.str "thing", y]) npd
  have e45 : (upd H44 pd (.tup [.str "thing", y])) pd = some (.tup [.str "thing", y]) := upd_same
  generalize upd H44 pd (.tup [.str "thing", y]) = H45 at s45 e45
  refine ⟨fun σ' H' => ∃ (pd' : Addr) (ds : List V), σ' = [some (.ref a), some (.ref b), some (.ref q), some (.ref x), some (.ref p), some (.ref hd), some (.ref st), some y, some u, some (.ref pt), y10, y11, y12, some (.ref pd')] ∧ Same H44 H' ∧ H' pd' = some (.tup ds) ∧ Due K b H44 ths y u ds, ?_, ?_⟩
  ·rcases ody.cls.ty with ⟨z, rfl⟩ | ⟨t, ht, hk⟩
   ·refine ⟨.str z, rfl, _, _, _, _, true, rfl, .ty "str", .base (.str z), kit_ty (by decide +kernel), true, rfl, iteT ⟨.str z, rfl, .ref p, rfl, p, _, 0, _, rfl, rfl, .inl (.inl (s45 _ _ hp44)), p0, tt, _, rfl, .inl ⟨thkv ths, .inr z, .inl (s45 _ _ htt44), rfl, rfl⟩, _, rfl, ?_⟩⟩
    by_cases hz : z ∈ ths.map (·.nm)
    ·obtain ⟨r, mr, er⟩ := List.mem_map.mp hz
     have er : r.nm = z := er
     subst er
     have hval := thkv_val nd mr
     have rnd := (few r mr).1
     rw [hval]
     refine iteT ⟨.ref p, rfl, p, _, 0, _, rfl, rfl, .inl (.inl (s45 _ _ hp44)), p0, .str r.nm, rfl, tt, .ref r.t, rfl, .inl ⟨thkv ths, .inr r.nm, .inl (s45 _ _ htt44), rfl, hval.symm⟩, r.t, _, 0, _, rfl, rfl, .inl (.inl (s45 _ _ (ht44 r mr))), atI_nat (j := 0) rfl, u, rfl, hS 3 (by decide), fun p2 n2 => ?_⟩
     have s46' := s45.trans (same_new (o := .tup [.str "field", .str r.kd, u]) n2)
     have e46 : (upd H45 p2 (.tup [.str "field", .str r.kd, u])) p2 = some (.tup [.str "field", .str r.kd, u]) := upd_same
     generalize upd H45 p2 (.tup [.str "field", .str r.kd, u]) = H46 at s46' e46
     by_cases un : u = .non
     ·subst un
      refine ⟨.non, rfl, rfl, true, rfl, iteT ⟨.ref p, rfl, p, _, 0, _, rfl, rfl, .inl (.inl (s46' _ _ hp44)), p0, .str r.nm, rfl, tt, .ref r.t, rfl, .inl ⟨thkv ths, .inr r.nm, .inl (s46' _ _ htt44), rfl, hval.symm⟩, r.t, _, 0, _, rfl, rfl, .inl (.inl (s46' _ _ (ht44 r mr))), atI_nat (j := 0) rfl, hS 2 (by decide), fun p3 n3 => ?_⟩⟩
      exact ⟨p3, _, rfl, s46'.trans (same_new n3), upd_same, .inl ⟨r, mr, rfl, .inl ⟨rfl, rfl⟩⟩⟩
     ·refine ⟨u, rfl, rfl, false, (by show V.bl (decide (u = .non)) = V.bl false; rw [decide_eq_false un]), iteF ?_⟩
      rcases odu.cls.ty with ⟨z, rfl⟩ | ⟨t, ht, hk⟩
      ·refine ⟨.str z, rfl, _, _, _, _, true, rfl, .ty "str", .base (.str z), kit_ty (by decide +kernel), true, rfl, iteT ⟨.str z, rfl, .ref p, rfl, p, _, 0, _, rfl, rfl, .inl (.inl (s46' _ _ hp44)), p0, .str r.nm, rfl, tt, .ref r.t, rfl, .inl ⟨thkv ths, .inr r.nm, .inl (s46' _ _ htt44), rfl, hval.symm⟩, r.t, _, 1, _, rfl, rfl, .inl (.inl (s46' _ _ (ht44 r mr))), atI_nat (j := 1) rfl, r.da, _, rfl, .inl ⟨vkv r.vs, .inr z, .inl (s46' _ _ (hd44 r mr)), rfl, rfl⟩, _, rfl, ?_⟩⟩
       by_cases hz2 : z ∈ r.vs.map (·.1)
       ·obtain ⟨f, mf, ef⟩ := List.mem_map.mp hz2
        have ef : f.1 = z := ef
        subst ef
        rw [vkv_val rnd mf]
        refine iteT ⟨.ref p, rfl, p, _, 0, _, rfl, rfl, .inl (.inl (s46' _ _ hp44)), p0, .str r.nm, rfl, tt, .ref r.t, rfl, .inl ⟨thkv ths, .inr r.nm, .inl (s46' _ _ htt44), rfl, hval.symm⟩, r.t, _, 1, _, rfl, rfl, .inl (.inl (s46' _ _ (ht44 r mr))), atI_nat (j := 1) rfl, .str f.1, rfl, r.da, f.2.1, rfl, .inl ⟨vkv r.vs, .inr f.1, .inl (s46' _ _ (hd44 r mr)), rfl, (vkv_val rnd mf).symm⟩, hS 2 (by decide), fun p3 n3 => ?_⟩
        exact ⟨p3, _, rfl, s46'.trans (same_new n3), upd_same, .inl ⟨r, mr, rfl, .inr (.inl ⟨f, mf, rfl, rfl⟩)⟩⟩
       ·rw [show valV (vkv r.vs) (Sum.inr z) = none from valV_out (f := fun f : Str × V × PyData => f.1) (g := fun f => f.2.1) hz2]
        exact iteF ⟨p2, _, rfl, s46', e46, .inl ⟨r, mr, rfl, .inr (.inr ⟨un, .inl ⟨z, rfl, hz2⟩, rfl⟩)⟩⟩
      ·exact ⟨u, rfl, _, _, _, _, false, rfl, .ty "str", ht _ (fun c o _ e => s46' c o e), hk, false, rfl, iteF ⟨p2, _, rfl, s46', e46, .inl ⟨r, mr, rfl, .inr (.inr ⟨un, .inr ⟨t, ht, hk⟩, rfl⟩)⟩⟩⟩
    ·rw [show valV (thkv ths) (Sum.inr z) = none from valV_out (f := fun r : TRow => r.nm) (g := fun r => V.ref r.t) hz]
     exact iteF ⟨pd, _, rfl, s45, e45, .inr ⟨.inl ⟨z, rfl, hz⟩, rfl⟩⟩
   ·exact ⟨y, rfl, _, _, _, _, false, rfl, .ty "str", ht _ (fun c o _ e => s45 c o e), hk, false, rfl, iteF ⟨pd, _, rfl, s45, e45, .inr ⟨.inr ⟨t, ht, hk⟩, rfl⟩⟩⟩
  rintro _ H47 ⟨pd', ds, rfl, s47', e47, due⟩
  have Bt47 := Bt44.same s47'
  have S47 : StoAt CT (nw H6 H7) H47 st x first ths' := S44.same (Same.refl _) s47'
  have sN47 := sN44.trans s47'
  have hx := Bt47
  obtain ⟨dxx, _, _, _, _, _, _, hx, _⟩ := hx
  obtain ⟨dx', tb, h1, h2⟩ := S47.o
  refine ⟨.ref st, rfl, st, CT, dx', _, _, rfl, h1, LT.cl, LT.n1, stl1, .ref x, rfl, ⟨x, x, dxx, dxx, _, _, rfl, rfl, hx, hx, REq.self Bt47 ok⟩, fun H48 s48 => ⟨true, rfl, iteT ?_⟩⟩
  have s48' : Same H44 H48 := s47'.trans s48
  have e48 := s48 _ _ e47
  have gb : Gr b H44 H48 := fun c o _ e => s48' c o e
  refine ⟨.ref st, rfl, y, rfl, u, rfl, nw H6 H7, st, x, first, ths', y, u, rfl, S47.same (Same.refl _) s48, sN47.trans s48, nd', ?_⟩
  have sc : ∀ z : Str, Sc (V.str z) := fun z => .inr (.inr (.inr ⟨z, rfl⟩))
  rcases due with ⟨r, mr, rfl, h⟩ | ⟨out, rfl⟩
  ·obtain ⟨r', mr', rn', rk', rv'⟩ := tdat_ex etd'.symm mr
   have enm : r'.vs.map (·.1) = r.vs.map (·.1) := by rw [← vdat_names, rv', vdat_names]
   refine .inl ⟨r', mr', congrArg V.str rn'.symm, (by rw [enm]; exact (few r mr).1), ?_⟩
   rcases h with ⟨rfl, rfl⟩ | ⟨f, mf, rfl, rfl⟩ | ⟨un, out, rfl⟩
   ·refine .inl ⟨rfl, fun pm H49 s49 _ e49 => ⟨.ref pd', rfl, .ref pm, .ref pd', rfl, SameL.upTo (tup2_sameV (n := 0) e49 (s49 _ _ e48) (.sc (sc _)) (by rw [rk']; exact .sc (sc _))) (by decide), fun H50 _ => k H50⟩⟩
   ·obtain ⟨f', mf', f1', f2'⟩ := vdat_ex rv'.symm mf
    refine .inr (.inl ⟨f', mf', congrArg V.str f1'.symm, fun pm v H49 s49 _ e49 va => ⟨.ref pd', rfl, .ref pm, .ref pd', rfl, ?_, fun H50 _ => k H50⟩⟩)
    rw [f2'] at va
    exact SameL.upTo (tup2_sameV (n := 5) e49 (s49 _ _ e48) (.sc (sc _)) (va.sameL [] ((va44 r mr f mf).same (s48'.trans s49)))) (by decide)
   ·refine .inr (.inr ⟨un, ?_, fun pm H49 s49 _ e49 => ⟨.ref pd', rfl, .ref pm, .ref pd', rfl, ?_, fun H50 _ => k H50⟩⟩)
    ·rw [enm]
     exact out.t gb
    ·exact SameL.upTo (tup3_sameV (n := 2) e49 (s49 _ _ e48) (.sc (sc _)) (by rw [rk']; exact .sc (sc _)) (odu.same _ (fun c o _ e => s49 _ _ (s48' _ _ e)))) (by decide)
  ·refine .inr ⟨(by rw [nm']; exact out.t gb), fun pm H49 s49 _ e49 => ⟨.ref pd', rfl, .ref pm, .ref pd', rfl, ?_, fun H50 _ => k H50⟩⟩
   exact SameL.upTo (tup2_sameV (n := 2) e49 (s49 _ _ e48) (.sc (sc _)) (ody.same _ (fun c o _ e => s49 _ _ (s48' _ _ e)))) (by decide)
end
end NW

namespace NW
open PySem PySem.Spec PyProof.Rows L2
theorem all_ok {P : Program} {w : World} {K : PySem.W.Frag} {mg : Str → Option Value} {base : Heap} {fl C CT CN CF CH : Addr} {fdl : FuncData} (D : Df K mg "law" s_law fl fdl ["_law_script"])
  (D_is_name : ∃ f fd, Df K mg "is_name" s_is_name f fd ["word"])
  (D_is_key : ∃ f fd, Df K mg "is_key" s_is_key f fd ["name", "table"])
  (D_is_table : ∃ f fd, Df K mg "is_table" s_is_table f fd ["table", "least", "most", "taken"])
  (D_is_choice : ∃ f fd, Df K mg "is_choice" s_is_choice f fd ["names", "table"])
  (D_is_fields : ∃ f fd, Df K mg "is_fields" s_is_fields f fd ["fields", "most", "bases"])
  (D_is_kind : ∃ f fd, Df K mg "is_kind" s_is_kind f fd ["worth", "faces", "bases"])
  (D_has_fields : ∃ f fd, Df K mg "has_fields" s_has_fields f fd ["holder", "fields"])
  (D_is_union : ∃ f fd, Df K mg "is_union" s_is_union f fd ["worth", "kinds"])
  (D_is_face : ∃ f fd, Df K mg "is_face" s_is_face f fd ["name", "fields", "kinds", "bases"])
  (D_check_names : ∃ f fd, Df K mg "check_names" s_check_names f fd ["kinds", "faces", "unions"])
  (D_check_schema : ∃ f fd, Df K mg "check_schema" s_check_schema f fd ["kinds", "faces", "unions", "root"])
  (D_Lbox : ∃ f fd, Df K mg "_law_box" s_Lbox f fd ["_law_script"])
  (D_Ldraw : ∃ f fd, Df K mg "_law_draw" s_Ldraw f fd ["_law_box_here", "_law_many"])
  (D_Lwords : ∃ f fd, Df K mg "_law_words" s_Lwords f fd ["_law_box_here", "_law_many"])
  (D_Lshape : ∃ f fd, Df K mg "_law_shape" s_Lshape f fd ["_law_box_here", "_law_bases", "_law_most"])
  (D_Lkind : ∃ f fd, Df K mg "_law_kind" s_Lkind f fd ["_law_box_here", "_law_faces", "_law_names", "_law_common", "_law_bases", "_law_most"])
  (D_Lschema : ∃ f fd, Df K mg "_law_schema" s_Lschema f fd ["_law_box_here", "_law_most", "_law_kinds"])
  (D_Lmembers : ∃ f fd, Df K mg "_law_members" s_Lmembers f fd ["_law_schema_here", "_law_base"])
  (D_Lmade : ∃ f fd, Df K mg "_law_made" s_Lmade f fd ["_law_schema_here"])
  (D_Lsame : ∃ f fd, Df K mg "_law_same" s_Lsame f fd ["_law_one", "_law_other"])
  (D_Lstrange : ∃ f fd, Df K mg "_law_strange" s_Lstrange f fd ["_law_box_here"])
  (D_is_sure : ∃ f fd, Df K mg "is_sure" s_is_sure f fd ["shape"])
  (D_is_plain_int : ∃ f fd, Df K mg "is_plain_int" s_is_plain_int f fd ["number"])
  (D_is_value : ∃ f fd, Df K mg "is_value" s_is_value f fd ["schema", "kinds", "shape", "value"])
  (D_is_thing : ∃ f fd, Df K mg "is_thing" s_is_thing f fd ["schema", "thing"])
  (D_check_things : ∃ f fd, Df K mg "check_things" s_check_things f fd ["schema", "things"])
  (D_check_values : ∃ f fd, Df K mg "check_values" s_check_values f fd ["schema", "kinds", "things"])
  (D_is_number : ∃ f fd, Df K mg "is_number" s_is_number f fd ["value"])
  (D_is_text : ∃ f fd, Df K mg "is_text" s_is_text f fd ["value"])
  (D_check_store : ∃ f fd, Df K mg "check_store" s_check_store f fd ["schema", "things", "first"])
  (D_copied : ∃ f fd, Df K mg "copied" s_copied f fd ["value"])
  (D_copied_fields : ∃ f fd, Df K mg "copied_fields" s_copied_fields f fd ["fields"])
  (D_Ltarget : ∃ f fd, Df K mg "_law_target" s_Ltarget f fd ["_law_shape_here"])
  (D_Lnumber : ∃ f fd, Df K mg "_law_number" s_Lnumber f fd ["_law_box_here"])
  (D_Ltext : ∃ f fd, Df K mg "_law_text" s_Ltext f fd ["_law_box_here"])
  (D_Lvalue : ∃ f fd, Df K mg "_law_value" s_Lvalue f fd ["_law_box_here", "_law_schema_here", "_law_own", "_law_shape_here", "_law_bad"])
  (D_Lthings : ∃ f fd, Df K mg "_law_things" s_Lthings f fd ["_law_box_here", "_law_schema_here", "_law_bad"])
  (D_Lcopy : ∃ f fd, Df K mg "_law_copy" s_Lcopy f fd ["_law_value_here"])
  (D_Lpick : ∃ f fd, Df K mg "_law_pick" s_Lpick f fd ["_law_box_here", "_law_row"])
  (D_Lhanded : ∃ f fd, Df K mg "_law_handed" s_Lhanded f fd ["_law_given"])
  (D_Lmissing : ∃ f fd, Df K mg "_law_missing" s_Lmissing f fd ["_law_store", "_law_thing", "_law_field"])
  (D_Lchanged : ∃ f fd, Df K mg "_law_changed" s_Lchanged f fd ["_law_value_here"])
  (D_is_shape : ∃ f fd, DfS K mg f fd)
  (M_bases : ∃ f fd, Mt K C "bases" "Schema.bases" s_Schema_bases f fd ["self"])
  (M_shapes_at : ∃ f fd, Mt K C "shapes_at" "Schema.shapes_at" s_Schema_shapes_at f fd ["self", "base"])
  (M_fields : ∃ f fd, Mt K C "fields" "Schema.fields" s_Schema_fields f fd ["self", "base"])
  (M_shape_of : ∃ f fd, Mt K C "shape_of" "Schema.shape_of" s_Schema_shape_of f fd ["self", "base", "field"])
  (M_members : ∃ f fd, Mt K C "members" "Schema.members" s_Schema_members f fd ["self", "base"])
  (M_kinds : ∃ f fd, Mt K C "kinds" "Schema.kinds" s_Schema_kinds f fd ["self"])
  (M_things_CT : ∃ f fd, Mt K CT "things" "Store.things" s_Store_things f fd ["self"])
  (M_kind_of_CT : ∃ f fd, Mt K CT "kind_of" "Store.kind_of" s_Store_kind_of f fd ["self", "thing"])
  (M_fields_with_CT : ∃ f fd, Mt K CT "fields_with" "Store.fields_with" s_Store_fields_with f fd ["self", "thing", "field"])
  (M_value_CT : ∃ f fd, Mt K CT "value" "Store.value" s_Store_value f fd ["self", "thing", "field"])
  (IN_Schema : ∃ f fd, Fun K "__init__" "Schema.__init__" s_Schema_init f fd ∧ Binds K fd ["self", "kinds", "faces", "unions", "root"] [] ∧ Mk K C f)
  (IN_Store : ∃ f fd, Fun K "__init__" "Store.__init__" s_Store_init f fd ∧ Binds K fd ["self", "schema", "things", "first"] [] ∧ Mk K CT f)
  (DU_sc : ∃ f fd, Fun K "__contains__" "Schema.__contains__" s_Schema_contains f fd ∧ Binds K fd ["self", "base"] [] ∧ InM K C f)
  (DU_se : ∃ f fd, Fun K "__eq__" "Schema.__eq__" s_Schema_eq f fd ∧ Binds K fd ["self", "other"] [] ∧ EqM K C f)
  (B_NoBase : ∃ f fd, Fun K "__init__" "NoBase.__init__" s_NoBase_init f fd ∧ Binds K fd ["self", "base"] [] ∧ NoB K mg CN f)
  (B_NoField : ∃ f fd, Fun K "__init__" "NoField.__init__" s_NoField_init f fd ∧ Binds K fd ["self", "base", "field"] [] ∧ NoF K mg CF f)
  (B_NoThing : ∃ f fd, Fun K "__init__" "NoThing.__init__" s_NoThing_init f fd ∧ Binds K fd ["self", "thing"] [] ∧ NoT K mg CH f)
  (gT12 : ∃ t, mg "MOST_THINGS" = some (.int 12 t))
  (gT6 : ∃ t, mg "MOST_ITEMS" = some (.int 6 t))
  (gTL : ∃ t, mg "MOST_LETTERS" = some (.int 12 t))
  (gTF : ∃ t, mg "FIRST_SIGN" = some (.int 32 t))
  (gTZ : ∃ t, mg "LAST_SIGN" = some (.int 126 t))
  (gTB : ∃ t, mg "BARRED_SIGN" = some (.int 37 t))
  (T : Nms mg) (Cs : Cst K mg)
  (L_Schema : ClT K C)
  (L_Store : StT K CT)
  (g_Schema : mg "Schema" = some (.ref C))
  (g_Store : mg "Store" = some (.ref CT))
  (g_NoBase : mg "NoBase" = some (.ref CN))
  (g_NoField : mg "NoField" = some (.ref CF))
  (g_NoThing : mg "NoThing" = some (.ref CH))
  (ci_C : ClsI K C)
  (habs : mg "abs" = none)
  (hord : mg "ord" = none)
  (X_NoBase : XfC K CN)
  (X_NoField : XfC K CF)
  (X_NoThing : XfC K CH)
  (f_NoBase_base : PySem.W.findIn K (.ref CN) "base" = some none)
  (f_NoField_base : PySem.W.findIn K (.ref CF) "base" = some none)
  (f_NoField_field : PySem.W.findIn K (.ref CF) "field" = some none)
  (f_NoThing_thing : PySem.W.findIn K (.ref CH) "thing" = some none)
  (e_CH_CH : PySem.W.exmOne K (.ref CH) (.ref CH) = some true)
  (e_CF_CH : PySem.W.exmOne K (.ref CF) (.ref CH) = some false)
  (e_CF_CF : PySem.W.exmOne K (.ref CF) (.ref CF) = some true)
  (hFAIL : ∃ a, mg "FAIL" = some (.ref a) ∧ ∀ H, SqT K H a [.str "fail"]) :
  FnOk P w K mg base CX0 15 fl fdl ["_law_script"] (spLaw K) := by
 obtain ⟨f_is_name, fd_is_name, D_is_name⟩ := D_is_name
 obtain ⟨f_is_key, fd_is_key, D_is_key⟩ := D_is_key
 obtain ⟨f_is_table, fd_is_table, D_is_table⟩ := D_is_table
 obtain ⟨f_is_choice, fd_is_choice, D_is_choice⟩ := D_is_choice
 obtain ⟨f_is_fields, fd_is_fields, D_is_fields⟩ := D_is_fields
 obtain ⟨f_is_kind, fd_is_kind, D_is_kind⟩ := D_is_kind
 obtain ⟨f_has_fields, fd_has_fields, D_has_fields⟩ := D_has_fields
 obtain ⟨f_is_union, fd_is_union, D_is_union⟩ := D_is_union
 obtain ⟨f_is_face, fd_is_face, D_is_face⟩ := D_is_face
 obtain ⟨f_check_names, fd_check_names, D_check_names⟩ := D_check_names
 obtain ⟨f_check_schema, fd_check_schema, D_check_schema⟩ := D_check_schema
 obtain ⟨f_Lbox, fd_Lbox, D_Lbox⟩ := D_Lbox
 obtain ⟨f_Ldraw, fd_Ldraw, D_Ldraw⟩ := D_Ldraw
 obtain ⟨f_Lwords, fd_Lwords, D_Lwords⟩ := D_Lwords
 obtain ⟨f_Lshape, fd_Lshape, D_Lshape⟩ := D_Lshape
 obtain ⟨f_Lkind, fd_Lkind, D_Lkind⟩ := D_Lkind
 obtain ⟨f_Lschema, fd_Lschema, D_Lschema⟩ := D_Lschema
 obtain ⟨f_Lmembers, fd_Lmembers, D_Lmembers⟩ := D_Lmembers
 obtain ⟨f_Lmade, fd_Lmade, D_Lmade⟩ := D_Lmade
 obtain ⟨f_Lsame, fd_Lsame, D_Lsame⟩ := D_Lsame
 obtain ⟨f_Lstrange, fd_Lstrange, D_Lstrange⟩ := D_Lstrange
 obtain ⟨f_is_sure, fd_is_sure, D_is_sure⟩ := D_is_sure
 obtain ⟨f_is_plain_int, fd_is_plain_int, D_is_plain_int⟩ := D_is_plain_int
 obtain ⟨f_is_value, fd_is_value, D_is_value⟩ := D_is_value
 obtain ⟨f_is_thing, fd_is_thing, D_is_thing⟩ := D_is_thing
 obtain ⟨f_check_things, fd_check_things, D_check_things⟩ := D_check_things
 obtain ⟨f_check_values, fd_check_values, D_check_values⟩ := D_check_values
 obtain ⟨f_is_number, fd_is_number, D_is_number⟩ := D_is_number
 obtain ⟨f_is_text, fd_is_text, D_is_text⟩ := D_is_text
 obtain ⟨f_check_store, fd_check_store, D_check_store⟩ := D_check_store
 obtain ⟨f_copied, fd_copied, D_copied⟩ := D_copied
 obtain ⟨f_copied_fields, fd_copied_fields, D_copied_fields⟩ := D_copied_fields
 obtain ⟨f_Ltarget, fd_Ltarget, D_Ltarget⟩ := D_Ltarget
 obtain ⟨f_Lnumber, fd_Lnumber, D_Lnumber⟩ := D_Lnumber
 obtain ⟨f_Ltext, fd_Ltext, D_Ltext⟩ := D_Ltext
 obtain ⟨f_Lvalue, fd_Lvalue, D_Lvalue⟩ := D_Lvalue
 obtain ⟨f_Lthings, fd_Lthings, D_Lthings⟩ := D_Lthings
 obtain ⟨f_Lcopy, fd_Lcopy, D_Lcopy⟩ := D_Lcopy
 obtain ⟨f_Lpick, fd_Lpick, D_Lpick⟩ := D_Lpick
 obtain ⟨f_Lhanded, fd_Lhanded, D_Lhanded⟩ := D_Lhanded
 obtain ⟨f_Lmissing, fd_Lmissing, D_Lmissing⟩ := D_Lmissing
 obtain ⟨f_Lchanged, fd_Lchanged, D_Lchanged⟩ := D_Lchanged
 obtain ⟨f_is_shape, fd_is_shape, D_is_shape⟩ := D_is_shape
 obtain ⟨f_bases, fd_bases, M_bases⟩ := M_bases
 obtain ⟨f_shapes_at, fd_shapes_at, M_shapes_at⟩ := M_shapes_at
 obtain ⟨f_fields, fd_fields, M_fields⟩ := M_fields
 obtain ⟨f_shape_of, fd_shape_of, M_shape_of⟩ := M_shape_of
 obtain ⟨f_members, fd_members, M_members⟩ := M_members
 obtain ⟨f_kinds, fd_kinds, M_kinds⟩ := M_kinds
 obtain ⟨f_things_CT, fd_things_CT, M_things_CT⟩ := M_things_CT
 obtain ⟨f_kind_of_CT, fd_kind_of_CT, M_kind_of_CT⟩ := M_kind_of_CT
 obtain ⟨f_fields_with_CT, fd_fields_with_CT, M_fields_with_CT⟩ := M_fields_with_CT
 obtain ⟨f_value_CT, fd_value_CT, M_value_CT⟩ := M_value_CT
 obtain ⟨fI_Schema, fdI_Schema, F_Schema, b_Schema, K_Schema⟩ := IN_Schema
 obtain ⟨fI_Store, fdI_Store, F_Store, b_Store, K_Store⟩ := IN_Store
 obtain ⟨f_sc, fd_sc, F_sc, b_sc, m_sc⟩ := DU_sc
 obtain ⟨f_se, fd_se, F_se, b_se, m_se⟩ := DU_se
 obtain ⟨fNoBase, fdNoBase, FNoBase, bNoBase, NNoBase⟩ := B_NoBase
 obtain ⟨fNoField, fdNoField, FNoField, bNoField, NNoField⟩ := B_NoField
 obtain ⟨fNoThing, fdNoThing, FNoThing, bNoThing, NNoThing⟩ := B_NoThing
 obtain ⟨t_gT12, gT12⟩ := gT12
 obtain ⟨t_gT6, gT6⟩ := gT6
 obtain ⟨t_gTL, gTL⟩ := gTL
 obtain ⟨t_gTF, gTF⟩ := gTF
 obtain ⟨t_gTZ, gTZ⟩ := gTZ
 obtain ⟨t_gTB, gTB⟩ := gTB
 have G_is_table := ok_is_table (P := P) (w := w) (base := base) D_is_table D_is_name T Cs
 have G_is_key := ok_is_key (P := P) (w := w) (base := base) D_is_key T
 have G_is_choice := ok_is_choice (P := P) (w := w) (base := base) D_is_choice D_is_key T
 have G_is_fields := ok_is_fields D_is_fields D_is_table D_is_shape T Cs G_is_table
 have G_is_kind := ok_is_kind D_is_kind D_is_choice D_is_fields T Cs G_is_choice G_is_fields
 have G_is_union := ok_is_union D_is_union D_is_choice T Cs G_is_choice
 have G_is_face := ok_is_face D_is_face D_is_fields D_has_fields T Cs G_is_fields
 have G_check_names := ok_check_names D_check_names D_is_table T Cs G_is_table
 have G_check_schema := ok_check_schema D_check_schema D_check_names D_is_kind D_is_face D_is_union D_is_key T Cs G_check_names G_is_kind G_is_face G_is_union G_is_key
 have G_init := ok_init F_Schema D_check_schema T L_Schema G_check_schema
 have G_bases := ok_bases (P := P) (w := w) (base := base) M_bases.F L_Schema Cs
 have G_contains := ok_contains F_sc M_bases D_is_key T L_Schema G_bases G_is_key
 have G_Ldraw := ok_Ldraw (P := P) (w := w) (base := base) D_Ldraw T
 have G_Lwords := ok_Lwords (P := P) (w := w) (base := base) D_Lwords D_Ldraw T
 have G_Lshape := ok_Lshape (P := P) (w := w) (base := base) D_Lshape D_Ldraw T
 have G_Lkind := ok_Lkind (P := P) (w := w) (base := base) D_Lkind D_Ldraw D_Lshape T
 have G_Lschema := ok_Lschema D_Lschema D_Ldraw D_Lshape D_Lwords D_Lkind T G_Ldraw G_Lshape G_Lwords G_Lkind
 have G_NB := ok_NB (P := P) (w := w) (mg := mg) (base := base) FNoBase NNoBase
 have G_NF := ok_NF (P := P) (w := w) (mg := mg) (base := base) FNoField NNoField
 have G_shapes_at := ok_shapes_at M_shapes_at.F m_sc b_sc G_contains NNoBase bNoBase G_NB T L_Schema
 have G_fields := ok_fields M_fields.F M_shapes_at G_shapes_at T L_Schema
 have G_shape_of := ok_shape_of M_shape_of.F M_shapes_at G_shapes_at D_is_key G_is_key NNoField bNoField G_NF T L_Schema
 have G_members := ok_members M_members.F m_sc b_sc G_contains NNoBase bNoBase G_NB T L_Schema
 have CSt : CstS mg K := ⟨hFAIL, ⟨_, gT12⟩, ⟨_, gT6⟩, ⟨_, gTL⟩, ⟨_, gTF⟩, ⟨_, gTZ⟩, ⟨_, gTB⟩, habs, hord⟩
 have G_kinds := ok_kinds (P := P) (w := w) (base := base) M_kinds.F T L_Schema
 have G_isv := ok_is_value (P := P) (w := w) (base := base) D_is_value D_is_sure D_is_number D_is_plain_int D_is_text D_is_key M_members G_members T CSt L_Schema
 have G_ist := ok_is_thing D_is_thing D_is_key M_kinds G_kinds M_fields G_fields T L_Schema
 have G_cht := ok_check_things D_check_things D_is_thing G_ist T
 have G_chv := ok_check_values D_check_values D_is_value (G_isv 4) M_shape_of G_shape_of T L_Schema
 have G_chs := ok_check_store D_check_store D_is_table D_is_name D_is_key D_check_things G_cht D_check_values G_chv T Cs CSt L_Schema
 have G_cpf := ok_copied_fields (P := P) (w := w) (base := base) D_copied_fields D_copied T
 have G_sti := ok_store_init F_Store D_check_store G_chs D_copied_fields G_cpf T L_Store
 have G_NT := ok_NT (P := P) (w := w) (mg := mg) (base := base) FNoThing NNoThing
 have G_kx := ok_kindX (P := P) (w := w) (base := base) M_kind_of_CT.F D_is_key NNoThing bNoThing G_NT T L_Store
 have G_fx := ok_fieldsX M_fields_with_CT.F D_is_key M_kind_of_CT G_kx NNoField bNoField G_NF T L_Store
 have G_vx := ok_valueX M_value_CT.F M_fields_with_CT G_fx D_copied T L_Store
 have G_th := ok_things (P := P) (w := w) (base := base) M_things_CT.F T L_Store
 have G_lm := ok_Lmissing D_Lmissing M_kind_of_CT G_kx M_value_CT G_vx L_Store g_NoThing g_NoField X_NoThing X_NoField f_NoThing_thing f_NoField_base f_NoField_field e_CH_CH e_CF_CH e_CF_CF
 have G_lv := ok_LvalE (P := P) (w := w) (base := base) D_Lvalue D_Ldraw D_Lmembers D_Lnumber D_Ltext D_Ltarget D_Lpick T 5
 have G_lt := ok_Lthings D_Lthings D_Ldraw D_Lwords D_Lpick D_Lvalue G_lv T
 have G_lh := ok_Lhanded (P := P) (w := w) (base := base) D_Lhanded D_Lcopy T
 have G_eq := ok_eq (P := P) (w := w) (base := base) F_se T L_Schema g_Schema ci_C
 exact ok_law D D_Lbox D_Ldraw D_Lschema (G_Lschema.mono (by decide)) D_Lmade (ok_Lmade D_Lmade T K_Schema g_Schema b_Schema G_init) D_Lthings G_lt D_Lhanded G_lh K_Store g_Store b_Store G_sti D_Lsame D_Lchanged M_things_CT G_th M_kind_of_CT G_kx M_value_CT G_vx L_Store D_Lstrange D_Lpick D_Lwords D_Lmissing G_lm m_se b_se G_eq T
end NW
namespace NW
open PySem PySem.Spec PyProof.Rows L2
theorem fun_ofD {K : PySem.W.Frag} {x q : Str} {st : Stmt} {f : Addr} {fd : FuncData} (F : FunD K x q (defArgs st) (defBody st) (defScope st) [] [] f fd) : L2.Fun K x q st f fd := by
 obtain ⟨⟨oc, od, dV, kV, doc, pm, an, cdv, ct, osl, e, l, c, d, _⟩, kp⟩ := F
 rcases d with ⟨_, rfl⟩ | ⟨h, _⟩
 ·exact ⟨⟨oc, od, kV, doc, pm, an, cdv, ct, osl, e, l, c⟩, kp⟩
 ·exact absurd rfl h
section
variable {K : PySem.W.Frag} {h : Heap} {mg : Str → Option Value}
theorem df_ofD {fa : List He.Fa} {fn : List He.DefD} (X : K.In h) (G : h.Ns mainGlobals mg) (c : He.SaysD fa fn K) {x : Str} {st : Stmt} {ps : List Str} (i j : Nat) (hd : fn[i]? = some ⟨(x, none), x, x, defArgs st, defBody st, defScope st, [], []⟩) (hg : fa[j]? = some (.glo x))
  (b : ∀ fd, FunD K x x (defArgs st) (defBody st) (defScope st) [] [] (He.ga K x) fd → Binds K fd ps []) : ∃ f fd, Df K mg x st f fd ps := by
 obtain ⟨fd, F⟩ := c.def_ i hd
 exact ⟨He.ga K x, fd, fun_ofD F, b fd F, He.glo_ok X G (c.fact j hg)⟩
theorem mt_ofD {fa : List He.Fa} {fn : List He.DefD} (c : He.SaysD fa fn K) {C x q : Str} {st : Stmt} {ps : List Str} (i j : Nat) (hd : fn[i]? = some ⟨(C, some x), x, q, defArgs st, defBody st, defScope st, [], []⟩) (hm : fa[j]? = some (.meth C x))
  (b : ∀ fd, FunD K x q (defArgs st) (defBody st) (defScope st) [] [] (He.ma K (He.ga K C) x) fd → Binds K fd ps []) : ∃ f fd, Mt K (He.ga K C) x q st f fd ps := by
 obtain ⟨fd, F⟩ := c.def_ i hd
 exact ⟨_, fd, fun_ofD F, b fd F, He.meth_ok (c.fact j hm)⟩
theorem in_ofD {fa : List He.Fa} {fn : List He.DefD} (c : He.SaysD fa fn K) {C q : Str} {st : Stmt} {ps : List Str} (i j : Nat) (hd : fn[i]? = some ⟨(C, some "__init__"), "__init__", q, defArgs st, defBody st, defScope st, [], []⟩) (hm : fa[j]? = some (.mkr C))
  (b : ∀ fd, FunD K "__init__" q (defArgs st) (defBody st) (defScope st) [] [] (He.ma K (He.ga K C) "__init__") fd → Binds K fd ps []) : ∃ f fd, L2.Fun K "__init__" q st f fd ∧ L2.Binds K fd ps [] ∧ L2.Mk K (He.ga K C) f := by
 obtain ⟨fd, F⟩ := c.def_ i hd
 exact ⟨_, fd, fun_ofD F, b fd F, He.mkr_ok (c.fact j hm)⟩
theorem du_ofD {fa : List He.Fa} {fn : List He.DefD} (c : He.SaysD fa fn K) {C x q : Str} {st : Stmt} {ps : List Str} {R : Addr → Prop} (i j : Nat) (hd : fn[i]? = some ⟨(C, some x), x, q, defArgs st, defBody st, defScope st, [], []⟩) (hm : fa[j]? = some (.meth C x))
  (b : ∀ fd, FunD K x q (defArgs st) (defBody st) (defScope st) [] [] (He.ma K (He.ga K C) x) fd → Binds K fd ps []) (r : Meth K (He.ga K C) x (He.ma K (He.ga K C) x) → R (He.ma K (He.ga K C) x)) : ∃ f fd, L2.Fun K x q st f fd ∧ L2.Binds K fd ps [] ∧ R f := by
 obtain ⟨fd, F⟩ := c.def_ i hd
 exact ⟨_, fd, fun_ofD F, b fd F, r (He.meth_ok (c.fact j hm))⟩
theorem er_ofD {fa : List He.Fa} {fn : List He.DefD} (c : He.SaysD fa fn K) {C q : Str} {st : Stmt} {ps : List Str} {R : Addr → Prop} (i : Nat) (hd : fn[i]? = some ⟨(C, some "__init__"), "__init__", q, defArgs st, defBody st, defScope st, [], []⟩)
  (b : ∀ fd, FunD K "__init__" q (defArgs st) (defBody st) (defScope st) [] [] (He.ma K (He.ga K C) "__init__") fd → Binds K fd ps []) (r : R (He.ma K (He.ga K C) "__init__")) : ∃ f fd, L2.Fun K "__init__" q st f fd ∧ L2.Binds K fd ps [] ∧ R f := by
 obtain ⟨fd, F⟩ := c.def_ i hd
 exact ⟨_, fd, fun_ofD F, b fd F, r⟩
theorem xs_at {xs : List (PySem.W.Frag → Bool)} {x : PySem.W.Frag → Bool} (d : ∀ x ∈ xs, x K = true) (i : Nat) (h : xs[i]? = some x) : x K = true := d x (List.mem_of_getElem? h)
end
end NW
set_option maxHeartbeats 0
namespace NW
open PySem PySem.Spec PyProof.Rows L2
section
variable {K : PySem.W.Frag} {h : Heap} {mg : Str → Option Value}
abbrev CC (K : PySem.W.Frag) : Prop := ∀ p ∈ HQ.ps, He.SaysD p.fa p.fn K ∧ ∀ x ∈ p.xs, x K = true
theorem c_0 (c : CC K) : He.SaysD HQ.fa0 HQ.fn0 K := (c HQ.p0 (.head _)).1
theorem d_0 (c : CC K) : ∀ x ∈ HQ.xs0, x K = true := (c HQ.p0 (.head _)).2
theorem F_D_is_name (X : K.In h) (G : h.Ns mainGlobals mg) (c : CC K) : ∃ f fd, Df K mg "is_name" s_is_name f fd ["word"] := df_ofD X G (c_0 c) 0 0 rfl rfl (fun fd F => F.bindsN (fun _ _ _ _ _ _ us hl => match us, hl with | [_], _ => rfl))
theorem F_D_is_key (X : K.In h) (G : h.Ns mainGlobals mg) (c : CC K) : ∃ f fd, Df K mg "is_key" s_is_key f fd ["name", "table"] := df_ofD X G (c_0 c) 1 1 rfl rfl (fun fd F => F.bindsN (fun _ _ _ _ _ _ us hl => match us, hl with | [_, _], _ => rfl))
theorem F_D_is_table (X : K.In h) (G : h.Ns mainGlobals mg) (c : CC K) : ∃ f fd, Df K mg "is_table" s_is_table f fd ["table", "least", "most", "taken"] := df_ofD X G (c_0 c) 2 2 rfl rfl (fun fd F => F.bindsN (fun _ _ _ _ _ _ us hl => match us, hl with | [_, _, _, _], _ => rfl))
theorem F_D_is_choice (X : K.In h) (G : h.Ns mainGlobals mg) (c : CC K) : ∃ f fd, Df K mg "is_choice" s_is_choice f fd ["names", "table"] := df_ofD X G (c_0 c) 3 3 rfl rfl (fun fd F => F.bindsN (fun _ _ _ _ _ _ us hl => match us, hl with | [_, _], _ => rfl))
theorem F_D_is_fields (X : K.In h) (G : h.Ns mainGlobals mg) (c : CC K) : ∃ f fd, Df K mg "is_fields" s_is_fields f fd ["fields", "most", "bases"] := df_ofD X G (c_0 c) 4 4 rfl rfl (fun fd F => F.bindsN (fun _ _ _ _ _ _ us hl => match us, hl with | [_, _, _], _ => rfl))
theorem F_D_is_kind (X : K.In h) (G : h.Ns mainGlobals mg) (c : CC K) : ∃ f fd, Df K mg "is_kind" s_is_kind f fd ["worth", "faces", "bases"] := df_ofD X G (c_0 c) 5 5 rfl rfl (fun fd F => F.bindsN (fun _ _ _ _ _ _ us hl => match us, hl with | [_, _, _], _ => rfl))
theorem F_D_has_fields (X : K.In h) (G : h.Ns mainGlobals mg) (c : CC K) : ∃ f fd, Df K mg "has_fields" s_has_fields f fd ["holder", "fields"] := df_ofD X G (c_0 c) 6 6 rfl rfl (fun fd F => F.bindsN (fun _ _ _ _ _ _ us hl => match us, hl with | [_, _], _ => rfl))
theorem F_D_is_union (X : K.In h) (G : h.Ns mainGlobals mg) (c : CC K) : ∃ f fd, Df K mg "is_union" s_is_union f fd ["worth", "kinds"] := df_ofD X G (c_0 c) 7 7 rfl rfl (fun fd F => F.bindsN (fun _ _ _ _ _ _ us hl => match us, hl with | [_, _], _ => rfl))
theorem F_D_is_face (X : K.In h) (G : h.Ns mainGlobals mg) (c : CC K) : ∃ f fd, Df K mg "is_face" s_is_face f fd ["name", "fields", "kinds", "bases"] := df_ofD X G (c_0 c) 8 8 rfl rfl (fun fd F => F.bindsN (fun _ _ _ _ _ _ us hl => match us, hl with | [_, _, _, _], _ => rfl))
theorem F_D_check_names (X : K.In h) (G : h.Ns mainGlobals mg) (c : CC K) : ∃ f fd, Df K mg "check_names" s_check_names f fd ["kinds", "faces", "unions"] := df_ofD X G (c_0 c) 9 9 rfl rfl (fun fd F => F.bindsN (fun _ _ _ _ _ _ us hl => match us, hl with | [_, _, _], _ => rfl))
theorem F_D_check_schema (X : K.In h) (G : h.Ns mainGlobals mg) (c : CC K) : ∃ f fd, Df K mg "check_schema" s_check_schema f fd ["kinds", "faces", "unions", "root"] := df_ofD X G (c_0 c) 10 10 rfl rfl (fun fd F => F.bindsN (fun _ _ _ _ _ _ us hl => match us, hl with | [_, _, _, _], _ => rfl))
theorem F_D_Lbox (X : K.In h) (G : h.Ns mainGlobals mg) (c : CC K) : ∃ f fd, Df K mg "_law_box" s_Lbox f fd ["_law_script"] := df_ofD X G (c_0 c) 11 11 rfl rfl (fun fd F => F.bindsN (fun _ _ _ _ _ _ us hl => match us, hl with | [_], _ => rfl))
theorem F_D_Ldraw (X : K.In h) (G : h.Ns mainGlobals mg) (c : CC K) : ∃ f fd, Df K mg "_law_draw" s_Ldraw f fd ["_law_box_here", "_law_many"] := df_ofD X G (c_0 c) 12 12 rfl rfl (fun fd F => F.bindsN (fun _ _ _ _ _ _ us hl => match us, hl with | [_, _], _ => rfl))
theorem F_D_Lwords (X : K.In h) (G : h.Ns mainGlobals mg) (c : CC K) : ∃ f fd, Df K mg "_law_words" s_Lwords f fd ["_law_box_here", "_law_many"] := df_ofD X G (c_0 c) 13 13 rfl rfl (fun fd F => F.bindsN (fun _ _ _ _ _ _ us hl => match us, hl with | [_, _], _ => rfl))
theorem F_D_Lshape (X : K.In h) (G : h.Ns mainGlobals mg) (c : CC K) : ∃ f fd, Df K mg "_law_shape" s_Lshape f fd ["_law_box_here", "_law_bases", "_law_most"] := df_ofD X G (c_0 c) 14 14 rfl rfl (fun fd F => F.bindsN (fun _ _ _ _ _ _ us hl => match us, hl with | [_, _, _], _ => rfl))
theorem F_D_Lkind (X : K.In h) (G : h.Ns mainGlobals mg) (c : CC K) : ∃ f fd, Df K mg "_law_kind" s_Lkind f fd ["_law_box_here", "_law_faces", "_law_names", "_law_common", "_law_bases", "_law_most"] := df_ofD X G (c_0 c) 15 15 rfl rfl (fun fd F => F.bindsN (fun _ _ _ _ _ _ us hl => match us, hl with | [_, _, _, _, _, _], _ => rfl))
theorem F_D_Lschema (X : K.In h) (G : h.Ns mainGlobals mg) (c : CC K) : ∃ f fd, Df K mg "_law_schema" s_Lschema f fd ["_law_box_here", "_law_most", "_law_kinds"] := df_ofD X G (c_0 c) 16 16 rfl rfl (fun fd F => F.bindsN (fun _ _ _ _ _ _ us hl => match us, hl with | [_, _, _], _ => rfl))
theorem F_D_Lmembers (X : K.In h) (G : h.Ns mainGlobals mg) (c : CC K) : ∃ f fd, Df K mg "_law_members" s_Lmembers f fd ["_law_schema_here", "_law_base"] := df_ofD X G (c_0 c) 17 17 rfl rfl (fun fd F => F.bindsN (fun _ _ _ _ _ _ us hl => match us, hl with | [_, _], _ => rfl))
theorem F_D_Lmade (X : K.In h) (G : h.Ns mainGlobals mg) (c : CC K) : ∃ f fd, Df K mg "_law_made" s_Lmade f fd ["_law_schema_here"] := df_ofD X G (c_0 c) 18 18 rfl rfl (fun fd F => F.bindsN (fun _ _ _ _ _ _ us hl => match us, hl with | [_], _ => rfl))
theorem F_D_Lsame (X : K.In h) (G : h.Ns mainGlobals mg) (c : CC K) : ∃ f fd, Df K mg "_law_same" s_Lsame f fd ["_law_one", "_law_other"] := df_ofD X G (c_0 c) 19 19 rfl rfl (fun fd F => F.bindsN (fun _ _ _ _ _ _ us hl => match us, hl with | [_, _], _ => rfl))
theorem F_D_Lstrange (X : K.In h) (G : h.Ns mainGlobals mg) (c : CC K) : ∃ f fd, Df K mg "_law_strange" s_Lstrange f fd ["_law_box_here"] := df_ofD X G (c_0 c) 20 20 rfl rfl (fun fd F => F.bindsN (fun _ _ _ _ _ _ us hl => match us, hl with | [_], _ => rfl))
theorem F_D_is_sure (X : K.In h) (G : h.Ns mainGlobals mg) (c : CC K) : ∃ f fd, Df K mg "is_sure" s_is_sure f fd ["shape"] := df_ofD X G (c_0 c) 21 21 rfl rfl (fun fd F => F.bindsN (fun _ _ _ _ _ _ us hl => match us, hl with | [_], _ => rfl))
theorem F_D_is_plain_int (X : K.In h) (G : h.Ns mainGlobals mg) (c : CC K) : ∃ f fd, Df K mg "is_plain_int" s_is_plain_int f fd ["number"] := df_ofD X G (c_0 c) 22 22 rfl rfl (fun fd F => F.bindsN (fun _ _ _ _ _ _ us hl => match us, hl with | [_], _ => rfl))
theorem F_D_is_value (X : K.In h) (G : h.Ns mainGlobals mg) (c : CC K) : ∃ f fd, Df K mg "is_value" s_is_value f fd ["schema", "kinds", "shape", "value"] := df_ofD X G (c_0 c) 23 23 rfl rfl (fun fd F => F.bindsN (fun _ _ _ _ _ _ us hl => match us, hl with | [_, _, _, _], _ => rfl))
theorem F_D_is_thing (X : K.In h) (G : h.Ns mainGlobals mg) (c : CC K) : ∃ f fd, Df K mg "is_thing" s_is_thing f fd ["schema", "thing"] := df_ofD X G (c_0 c) 24 24 rfl rfl (fun fd F => F.bindsN (fun _ _ _ _ _ _ us hl => match us, hl with | [_, _], _ => rfl))
theorem F_D_check_things (X : K.In h) (G : h.Ns mainGlobals mg) (c : CC K) : ∃ f fd, Df K mg "check_things" s_check_things f fd ["schema", "things"] := df_ofD X G (c_0 c) 25 25 rfl rfl (fun fd F => F.bindsN (fun _ _ _ _ _ _ us hl => match us, hl with | [_, _], _ => rfl))
theorem F_D_check_values (X : K.In h) (G : h.Ns mainGlobals mg) (c : CC K) : ∃ f fd, Df K mg "check_values" s_check_values f fd ["schema", "kinds", "things"] := df_ofD X G (c_0 c) 26 26 rfl rfl (fun fd F => F.bindsN (fun _ _ _ _ _ _ us hl => match us, hl with | [_, _, _], _ => rfl))
theorem F_D_is_number (X : K.In h) (G : h.Ns mainGlobals mg) (c : CC K) : ∃ f fd, Df K mg "is_number" s_is_number f fd ["value"] := df_ofD X G (c_0 c) 27 27 rfl rfl (fun fd F => F.bindsN (fun _ _ _ _ _ _ us hl => match us, hl with | [_], _ => rfl))
theorem F_D_is_text (X : K.In h) (G : h.Ns mainGlobals mg) (c : CC K) : ∃ f fd, Df K mg "is_text" s_is_text f fd ["value"] := df_ofD X G (c_0 c) 28 28 rfl rfl (fun fd F => F.bindsN (fun _ _ _ _ _ _ us hl => match us, hl with | [_], _ => rfl))
theorem F_D_check_store (X : K.In h) (G : h.Ns mainGlobals mg) (c : CC K) : ∃ f fd, Df K mg "check_store" s_check_store f fd ["schema", "things", "first"] := df_ofD X G (c_0 c) 29 29 rfl rfl (fun fd F => F.bindsN (fun _ _ _ _ _ _ us hl => match us, hl with | [_, _, _], _ => rfl))
theorem F_D_copied (X : K.In h) (G : h.Ns mainGlobals mg) (c : CC K) : ∃ f fd, Df K mg "copied" s_copied f fd ["value"] := df_ofD X G (c_0 c) 30 30 rfl rfl (fun fd F => F.bindsN (fun _ _ _ _ _ _ us hl => match us, hl with | [_], _ => rfl))
theorem F_D_copied_fields (X : K.In h) (G : h.Ns mainGlobals mg) (c : CC K) : ∃ f fd, Df K mg "copied_fields" s_copied_fields f fd ["fields"] := df_ofD X G (c_0 c) 31 31 rfl rfl (fun fd F => F.bindsN (fun _ _ _ _ _ _ us hl => match us, hl with | [_], _ => rfl))
theorem F_D_Ltarget (X : K.In h) (G : h.Ns mainGlobals mg) (c : CC K) : ∃ f fd, Df K mg "_law_target" s_Ltarget f fd ["_law_shape_here"] := df_ofD X G (c_0 c) 32 32 rfl rfl (fun fd F => F.bindsN (fun _ _ _ _ _ _ us hl => match us, hl with | [_], _ => rfl))
theorem F_D_Lnumber (X : K.In h) (G : h.Ns mainGlobals mg) (c : CC K) : ∃ f fd, Df K mg "_law_number" s_Lnumber f fd ["_law_box_here"] := df_ofD X G (c_0 c) 33 33 rfl rfl (fun fd F => F.bindsN (fun _ _ _ _ _ _ us hl => match us, hl with | [_], _ => rfl))
theorem F_D_Ltext (X : K.In h) (G : h.Ns mainGlobals mg) (c : CC K) : ∃ f fd, Df K mg "_law_text" s_Ltext f fd ["_law_box_here"] := df_ofD X G (c_0 c) 34 34 rfl rfl (fun fd F => F.bindsN (fun _ _ _ _ _ _ us hl => match us, hl with | [_], _ => rfl))
theorem F_D_Lvalue (X : K.In h) (G : h.Ns mainGlobals mg) (c : CC K) : ∃ f fd, Df K mg "_law_value" s_Lvalue f fd ["_law_box_here", "_law_schema_here", "_law_own", "_law_shape_here", "_law_bad"] := df_ofD X G (c_0 c) 35 35 rfl rfl (fun fd F => F.bindsN (fun _ _ _ _ _ _ us hl => match us, hl with | [_, _, _, _, _], _ => rfl))
theorem F_D_Lthings (X : K.In h) (G : h.Ns mainGlobals mg) (c : CC K) : ∃ f fd, Df K mg "_law_things" s_Lthings f fd ["_law_box_here", "_law_schema_here", "_law_bad"] := df_ofD X G (c_0 c) 36 36 rfl rfl (fun fd F => F.bindsN (fun _ _ _ _ _ _ us hl => match us, hl with | [_, _, _], _ => rfl))
theorem F_D_Lcopy (X : K.In h) (G : h.Ns mainGlobals mg) (c : CC K) : ∃ f fd, Df K mg "_law_copy" s_Lcopy f fd ["_law_value_here"] := df_ofD X G (c_0 c) 37 37 rfl rfl (fun fd F => F.bindsN (fun _ _ _ _ _ _ us hl => match us, hl with | [_], _ => rfl))
theorem F_D_Lpick (X : K.In h) (G : h.Ns mainGlobals mg) (c : CC K) : ∃ f fd, Df K mg "_law_pick" s_Lpick f fd ["_law_box_here", "_law_row"] := df_ofD X G (c_0 c) 38 38 rfl rfl (fun fd F => F.bindsN (fun _ _ _ _ _ _ us hl => match us, hl with | [_, _], _ => rfl))
theorem F_D_Lhanded (X : K.In h) (G : h.Ns mainGlobals mg) (c : CC K) : ∃ f fd, Df K mg "_law_handed" s_Lhanded f fd ["_law_given"] := df_ofD X G (c_0 c) 39 39 rfl rfl (fun fd F => F.bindsN (fun _ _ _ _ _ _ us hl => match us, hl with | [_], _ => rfl))
theorem F_D_Lmissing (X : K.In h) (G : h.Ns mainGlobals mg) (c : CC K) : ∃ f fd, Df K mg "_law_missing" s_Lmissing f fd ["_law_store", "_law_thing", "_law_field"] := df_ofD X G (c_0 c) 40 40 rfl rfl (fun fd F => F.bindsN (fun _ _ _ _ _ _ us hl => match us, hl with | [_, _, _], _ => rfl))
theorem F_D_Lchanged (X : K.In h) (G : h.Ns mainGlobals mg) (c : CC K) : ∃ f fd, Df K mg "_law_changed" s_Lchanged f fd ["_law_value_here"] := df_ofD X G (c_0 c) 41 41 rfl rfl (fun fd F => F.bindsN (fun _ _ _ _ _ _ us hl => match us, hl with | [_], _ => rfl))
theorem F_D_is_shape (X : K.In h) (G : h.Ns mainGlobals mg) (c : CC K) : ∃ f fd, DfS K mg f fd := by
 obtain ⟨fd, F⟩ := (c_0 c).def_ 42 (d := ⟨("is_shape", none), "is_shape", "is_shape", defArgs s_is_shape, defBody s_is_shape, defScope s_is_shape, [.int 4, .str ""], []⟩) rfl
 have F : FunD K "is_shape" "is_shape" (defArgs s_is_shape) (defBody s_is_shape) (defScope s_is_shape) [.int 4, .str ""] [] (He.ga K "is_shape") fd := F
 refine ⟨_, fd, F, He.glo_ok X G ((c_0 c).fact 42 (f := He.Fa.glo "is_shape") rfl), ?_, ?_⟩
 ·obtain ⟨ds, r, b⟩ := F.binds1 (ps := ["shape", "bases", "room", "outer"]) 4 2 (by intro z; cases z) rfl fun T kV doc pm an cdv ct us its hu hi => match us, hu, its, hi with | [_, _, _, _], _, [_, _], _ => ⟨_, rfl, rfl⟩
  cases r
  exact b
 ·exact F.binds1 (ps := ["shape", "bases", "room", "outer"]) 2 0 (by intro z; cases z) rfl fun T kV doc pm an cdv ct us its hu hi => match us, hu, its, hi with | [_, _], _, [_, _], _ => ⟨_, rfl, rfl⟩
theorem F_M_bases (X : K.In h) (G : h.Ns mainGlobals mg) (c : CC K) : ∃ f fd, Mt K (He.ga K "Schema") "bases" "Schema.bases" s_Schema_bases f fd ["self"] := mt_ofD (c_0 c) 44 44 rfl rfl (fun fd F => F.bindsN (fun _ _ _ _ _ _ us hl => match us, hl with | [_], _ => rfl))
theorem F_M_shapes_at (X : K.In h) (G : h.Ns mainGlobals mg) (c : CC K) : ∃ f fd, Mt K (He.ga K "Schema") "shapes_at" "Schema.shapes_at" s_Schema_shapes_at f fd ["self", "base"] := mt_ofD (c_0 c) 45 45 rfl rfl (fun fd F => F.bindsN (fun _ _ _ _ _ _ us hl => match us, hl with | [_, _], _ => rfl))
theorem F_M_fields (X : K.In h) (G : h.Ns mainGlobals mg) (c : CC K) : ∃ f fd, Mt K (He.ga K "Schema") "fields" "Schema.fields" s_Schema_fields f fd ["self", "base"] := mt_ofD (c_0 c) 46 46 rfl rfl (fun fd F => F.bindsN (fun _ _ _ _ _ _ us hl => match us, hl with | [_, _], _ => rfl))
theorem F_M_shape_of (X : K.In h) (G : h.Ns mainGlobals mg) (c : CC K) : ∃ f fd, Mt K (He.ga K "Schema") "shape_of" "Schema.shape_of" s_Schema_shape_of f fd ["self", "base", "field"] := mt_ofD (c_0 c) 47 47 rfl rfl (fun fd F => F.bindsN (fun _ _ _ _ _ _ us hl => match us, hl with | [_, _, _], _ => rfl))
theorem F_M_members (X : K.In h) (G : h.Ns mainGlobals mg) (c : CC K) : ∃ f fd, Mt K (He.ga K "Schema") "members" "Schema.members" s_Schema_members f fd ["self", "base"] := mt_ofD (c_0 c) 48 48 rfl rfl (fun fd F => F.bindsN (fun _ _ _ _ _ _ us hl => match us, hl with | [_, _], _ => rfl))
theorem F_M_kinds (X : K.In h) (G : h.Ns mainGlobals mg) (c : CC K) : ∃ f fd, Mt K (He.ga K "Schema") "kinds" "Schema.kinds" s_Schema_kinds f fd ["self"] := mt_ofD (c_0 c) 49 49 rfl rfl (fun fd F => F.bindsN (fun _ _ _ _ _ _ us hl => match us, hl with | [_], _ => rfl))
theorem F_M_things_CT (X : K.In h) (G : h.Ns mainGlobals mg) (c : CC K) : ∃ f fd, Mt K (He.ga K "Store") "things" "Store.things" s_Store_things f fd ["self"] := mt_ofD (c_0 c) 50 50 rfl rfl (fun fd F => F.bindsN (fun _ _ _ _ _ _ us hl => match us, hl with | [_], _ => rfl))
theorem F_M_kind_of_CT (X : K.In h) (G : h.Ns mainGlobals mg) (c : CC K) : ∃ f fd, Mt K (He.ga K "Store") "kind_of" "Store.kind_of" s_Store_kind_of f fd ["self", "thing"] := mt_ofD (c_0 c) 51 51 rfl rfl (fun fd F => F.bindsN (fun _ _ _ _ _ _ us hl => match us, hl with | [_, _], _ => rfl))
theorem F_M_fields_with_CT (X : K.In h) (G : h.Ns mainGlobals mg) (c : CC K) : ∃ f fd, Mt K (He.ga K "Store") "fields_with" "Store.fields_with" s_Store_fields_with f fd ["self", "thing", "field"] := mt_ofD (c_0 c) 52 52 rfl rfl (fun fd F => F.bindsN (fun _ _ _ _ _ _ us hl => match us, hl with | [_, _, _], _ => rfl))
theorem F_M_value_CT (X : K.In h) (G : h.Ns mainGlobals mg) (c : CC K) : ∃ f fd, Mt K (He.ga K "Store") "value" "Store.value" s_Store_value f fd ["self", "thing", "field"] := mt_ofD (c_0 c) 53 53 rfl rfl (fun fd F => F.bindsN (fun _ _ _ _ _ _ us hl => match us, hl with | [_, _, _], _ => rfl))
theorem F_IN_Schema (X : K.In h) (G : h.Ns mainGlobals mg) (c : CC K) : ∃ f fd, L2.Fun K "__init__" "Schema.__init__" s_Schema_init f fd ∧ L2.Binds K fd ["self", "kinds", "faces", "unions", "root"] [] ∧ L2.Mk K (He.ga K "Schema") f := in_ofD (c_0 c) 54 54 rfl rfl (fun fd F => F.bindsN (fun _ _ _ _ _ _ us hl => match us, hl with | [_, _, _, _, _], _ => rfl))
theorem F_IN_Store (X : K.In h) (G : h.Ns mainGlobals mg) (c : CC K) : ∃ f fd, L2.Fun K "__init__" "Store.__init__" s_Store_init f fd ∧ L2.Binds K fd ["self", "schema", "things", "first"] [] ∧ L2.Mk K (He.ga K "Store") f := in_ofD (c_0 c) 55 61 rfl rfl (fun fd F => F.bindsN (fun _ _ _ _ _ _ us hl => match us, hl with | [_, _, _, _], _ => rfl))
theorem F_DU_sc (X : K.In h) (G : h.Ns mainGlobals mg) (c : CC K) : ∃ f fd, L2.Fun K "__contains__" "Schema.__contains__" s_Schema_contains f fd ∧ L2.Binds K fd ["self", "base"] [] ∧ InM K (He.ga K "Schema") f := du_ofD (c_0 c) 56 67 rfl rfl (fun fd F => F.bindsN (fun _ _ _ _ _ _ us hl => match us, hl with | [_, _], _ => rfl)) (fun m => ⟨m.at_, m.fn⟩)
theorem F_DU_se (X : K.In h) (G : h.Ns mainGlobals mg) (c : CC K) : ∃ f fd, L2.Fun K "__eq__" "Schema.__eq__" s_Schema_eq f fd ∧ L2.Binds K fd ["self", "other"] [] ∧ EqM K (He.ga K "Schema") f := du_ofD (c_0 c) 57 68 rfl rfl (fun fd F => F.bindsN (fun _ _ _ _ _ _ us hl => match us, hl with | [_, _], _ => rfl)) (fun m => ⟨m.at_, m.fn⟩)
theorem F_B_NoBase (X : K.In h) (G : h.Ns mainGlobals mg) (c : CC K) : ∃ f fd, L2.Fun K "__init__" "NoBase.__init__" s_NoBase_init f fd ∧ L2.Binds K fd ["self", "base"] [] ∧ NoB K mg (He.ga K "NoBase") f := er_ofD (c_0 c) 58 rfl (fun fd F => F.bindsN (fun _ _ _ _ _ _ us hl => match us, hl with | [_, _], _ => rfl)) ⟨nob_1 (xs_at (d_0 c) 1 rfl), nob_2 (xs_at (d_0 c) 1 rfl), nob_3 (xs_at (d_0 c) 1 rfl), He.glo_ok X G ((c_0 c).fact 69 (f := He.Fa.glo "NoBase") rfl), nob_no (xs_at (d_0 c) 1 rfl) (x := "base") (by decide)⟩
theorem F_B_NoField (X : K.In h) (G : h.Ns mainGlobals mg) (c : CC K) : ∃ f fd, L2.Fun K "__init__" "NoField.__init__" s_NoField_init f fd ∧ L2.Binds K fd ["self", "base", "field"] [] ∧ NoF K mg (He.ga K "NoField") f := er_ofD (c_0 c) 59 rfl (fun fd F => F.bindsN (fun _ _ _ _ _ _ us hl => match us, hl with | [_, _, _], _ => rfl)) ⟨nob_1 (xs_at (d_0 c) 2 rfl), nob_2 (xs_at (d_0 c) 2 rfl), nob_3 (xs_at (d_0 c) 2 rfl), He.glo_ok X G ((c_0 c).fact 70 (f := He.Fa.glo "NoField") rfl), nob_no (xs_at (d_0 c) 2 rfl) (x := "base") (by decide), nob_no (xs_at (d_0 c) 2 rfl) (x := "field") (by decide)⟩
theorem F_B_NoThing (X : K.In h) (G : h.Ns mainGlobals mg) (c : CC K) : ∃ f fd, L2.Fun K "__init__" "NoThing.__init__" s_NoThing_init f fd ∧ L2.Binds K fd ["self", "thing"] [] ∧ NoT K mg (He.ga K "NoThing") f := er_ofD (c_0 c) 60 rfl (fun fd F => F.bindsN (fun _ _ _ _ _ _ us hl => match us, hl with | [_, _], _ => rfl)) ⟨nob_1 (xs_at (d_0 c) 3 rfl), nob_2 (xs_at (d_0 c) 3 rfl), nob_3 (xs_at (d_0 c) 3 rfl), He.glo_ok X G ((c_0 c).fact 71 (f := He.Fa.glo "NoThing") rfl), nob_no (xs_at (d_0 c) 3 rfl) (x := "thing") (by decide)⟩
theorem F_I_gT12 (X : K.In h) (G : h.Ns mainGlobals mg) (c : CC K) : ∃ t, mg "MOST_THINGS" = some (.int 12 t) := He.int_ok X G ((c_0 c).fact 87 (f := He.Fa.int "MOST_THINGS" 12) rfl)
theorem F_I_gT6 (X : K.In h) (G : h.Ns mainGlobals mg) (c : CC K) : ∃ t, mg "MOST_ITEMS" = some (.int 6 t) := He.int_ok X G ((c_0 c).fact 88 (f := He.Fa.int "MOST_ITEMS" 6) rfl)
theorem F_I_gTL (X : K.In h) (G : h.Ns mainGlobals mg) (c : CC K) : ∃ t, mg "MOST_LETTERS" = some (.int 12 t) := He.int_ok X G ((c_0 c).fact 89 (f := He.Fa.int "MOST_LETTERS" 12) rfl)
theorem F_I_gTF (X : K.In h) (G : h.Ns mainGlobals mg) (c : CC K) : ∃ t, mg "FIRST_SIGN" = some (.int 32 t) := He.int_ok X G ((c_0 c).fact 90 (f := He.Fa.int "FIRST_SIGN" 32) rfl)
theorem F_I_gTZ (X : K.In h) (G : h.Ns mainGlobals mg) (c : CC K) : ∃ t, mg "LAST_SIGN" = some (.int 126 t) := He.int_ok X G ((c_0 c).fact 91 (f := He.Fa.int "LAST_SIGN" 126) rfl)
theorem F_I_gTB (X : K.In h) (G : h.Ns mainGlobals mg) (c : CC K) : ∃ t, mg "BARRED_SIGN" = some (.int 37 t) := He.int_ok X G ((c_0 c).fact 92 (f := He.Fa.int "BARRED_SIGN" 37) rfl)
theorem F_T (X : K.In h) (G : h.Ns mainGlobals mg) (c : CC K) : Nms mg := ⟨He.free_ok X G ((c_0 c).fact 72 (f := He.Fa.free "len") rfl), He.free_ok X G ((c_0 c).fact 73 (f := He.Fa.free "int") rfl), He.free_ok X G ((c_0 c).fact 74 (f := He.Fa.free "str") rfl), He.free_ok X G ((c_0 c).fact 75 (f := He.Fa.free "list") rfl), He.free_ok X G ((c_0 c).fact 76 (f := He.Fa.free "tuple") rfl), He.free_ok X G ((c_0 c).fact 77 (f := He.Fa.free "dict") rfl), He.free_ok X G ((c_0 c).fact 78 (f := He.Fa.free "set") rfl), He.free_ok X G ((c_0 c).fact 79 (f := He.Fa.free "range") rfl), He.free_ok X G ((c_0 c).fact 80 (f := He.Fa.free "sorted") rfl), He.free_ok X G ((c_0 c).fact 81 (f := He.Fa.free "all") rfl), He.free_ok X G ((c_0 c).fact 82 (f := He.Fa.free "isinstance") rfl), He.free_ok X G ((c_0 c).fact 83 (f := He.Fa.free "enumerate") rfl), He.free_ok X G ((c_0 c).fact 84 (f := He.Fa.free "bool") rfl)⟩
theorem F_Cs (X : K.In h) (G : h.Ns mainGlobals mg) (c : CC K) : Cst K mg := ⟨He.str_ok X G ((c_0 c).fact 93 (f := He.Fa.str "LETTERS" LET) rfl), He.int_ok X G ((c_0 c).fact 94 (f := He.Fa.int "LONGEST" 8) rfl), ⟨_, He.glo_ok X G ((c_0 c).fact 95 (f := He.Fa.glo "LEAVES") rfl), fun H => He.tupB_ok (xs_at (d_0 c) 7 rfl) H⟩, ⟨_, He.glo_ok X G ((c_0 c).fact 96 (f := He.Fa.glo "WRAPPERS") rfl), fun H => He.tupB_ok (xs_at (d_0 c) 8 rfl) H⟩, He.int_ok X G ((c_0 c).fact 97 (f := He.Fa.int "MOST_KINDS" 6) rfl), He.int_ok X G ((c_0 c).fact 98 (f := He.Fa.int "MOST_FACES" 3) rfl), He.int_ok X G ((c_0 c).fact 99 (f := He.Fa.int "MOST_UNIONS" 3) rfl), He.int_ok X G ((c_0 c).fact 100 (f := He.Fa.int "MOST_KIND_FIELDS" 5) rfl), He.int_ok X G ((c_0 c).fact 101 (f := He.Fa.int "MOST_FACE_FIELDS" 4) rfl), He.int_ok X G ((c_0 c).fact 102 (f := He.Fa.int "MOST_UNION_KINDS" 4) rfl)⟩
theorem F_L_Schema (X : K.In h) (G : h.Ns mainGlobals mg) (c : CC K) : ClT K (He.ga K "Schema") := ⟨He.cls_ok ((c_0 c).fact 56 (f := He.Fa.cls "Schema") rfl), He.noat_ok ((c_0 c).fact 57 (f := He.Fa.noat "Schema" "kind_table") rfl), He.noat_ok ((c_0 c).fact 58 (f := He.Fa.noat "Schema" "face_table") rfl), He.noat_ok ((c_0 c).fact 59 (f := He.Fa.noat "Schema" "union_table") rfl), He.noat_ok ((c_0 c).fact 60 (f := He.Fa.noat "Schema" "root") rfl)⟩
theorem F_L_Store (X : K.In h) (G : h.Ns mainGlobals mg) (c : CC K) : StT K (He.ga K "Store") := ⟨He.cls_ok ((c_0 c).fact 63 (f := He.Fa.cls "Store") rfl), He.noat_ok ((c_0 c).fact 64 (f := He.Fa.noat "Store" "schema") rfl), He.noat_ok ((c_0 c).fact 65 (f := He.Fa.noat "Store" "first") rfl), He.noat_ok ((c_0 c).fact 66 (f := He.Fa.noat "Store" "thing_table") rfl)⟩
theorem F_g_Schema (X : K.In h) (G : h.Ns mainGlobals mg) (c : CC K) : mg "Schema" = some (.ref (He.ga K "Schema")) := He.glo_ok X G ((c_0 c).fact 55 (f := He.Fa.glo "Schema") rfl)
theorem F_g_Store (X : K.In h) (G : h.Ns mainGlobals mg) (c : CC K) : mg "Store" = some (.ref (He.ga K "Store")) := He.glo_ok X G ((c_0 c).fact 62 (f := He.Fa.glo "Store") rfl)
theorem F_g_NoBase (X : K.In h) (G : h.Ns mainGlobals mg) (c : CC K) : mg "NoBase" = some (.ref (He.ga K "NoBase")) := He.glo_ok X G ((c_0 c).fact 69 (f := He.Fa.glo "NoBase") rfl)
theorem F_g_NoField (X : K.In h) (G : h.Ns mainGlobals mg) (c : CC K) : mg "NoField" = some (.ref (He.ga K "NoField")) := He.glo_ok X G ((c_0 c).fact 70 (f := He.Fa.glo "NoField") rfl)
theorem F_g_NoThing (X : K.In h) (G : h.Ns mainGlobals mg) (c : CC K) : mg "NoThing" = some (.ref (He.ga K "NoThing")) := He.glo_ok X G ((c_0 c).fact 71 (f := He.Fa.glo "NoThing") rfl)
theorem F_ci_C (X : K.In h) (G : h.Ns mainGlobals mg) (c : CC K) : ClsI K (He.ga K "Schema") := ⟨(ci_ok (xs_at (d_0 c) 9 rfl)).1, (ci_ok (xs_at (d_0 c) 9 rfl)).2.1, (ci_ok (xs_at (d_0 c) 9 rfl)).2.2.1, (ci_ok (xs_at (d_0 c) 9 rfl)).2.2.2.1, (ci_ok (xs_at (d_0 c) 9 rfl)).2.2.2.2⟩
theorem F_N_habs (X : K.In h) (G : h.Ns mainGlobals mg) (c : CC K) : mg "abs" = none := He.free_ok X G ((c_0 c).fact 85 (f := He.Fa.free "abs") rfl)
theorem F_N_hord (X : K.In h) (G : h.Ns mainGlobals mg) (c : CC K) : mg "ord" = none := He.free_ok X G ((c_0 c).fact 86 (f := He.Fa.free "ord") rfl)
theorem F_X_NoBase (X : K.In h) (G : h.Ns mainGlobals mg) (c : CC K) : L2.XfC K (He.ga K "NoBase") := xf_ok (xs_at (d_0 c) 4 rfl)
theorem F_X_NoField (X : K.In h) (G : h.Ns mainGlobals mg) (c : CC K) : L2.XfC K (He.ga K "NoField") := xf_ok (xs_at (d_0 c) 5 rfl)
theorem F_X_NoThing (X : K.In h) (G : h.Ns mainGlobals mg) (c : CC K) : L2.XfC K (He.ga K "NoThing") := xf_ok (xs_at (d_0 c) 6 rfl)
theorem F_f_NoBase_base (X : K.In h) (G : h.Ns mainGlobals mg) (c : CC K) : PySem.W.findIn K (.ref (He.ga K "NoBase")) "base" = some none := nob_no (xs_at (d_0 c) 1 rfl) (x := "base") (by decide)
theorem F_f_NoField_base (X : K.In h) (G : h.Ns mainGlobals mg) (c : CC K) : PySem.W.findIn K (.ref (He.ga K "NoField")) "base" = some none := nob_no (xs_at (d_0 c) 2 rfl) (x := "base") (by decide)
theorem F_f_NoField_field (X : K.In h) (G : h.Ns mainGlobals mg) (c : CC K) : PySem.W.findIn K (.ref (He.ga K "NoField")) "field" = some none := nob_no (xs_at (d_0 c) 2 rfl) (x := "field") (by decide)
theorem F_f_NoThing_thing (X : K.In h) (G : h.Ns mainGlobals mg) (c : CC K) : PySem.W.findIn K (.ref (He.ga K "NoThing")) "thing" = some none := nob_no (xs_at (d_0 c) 3 rfl) (x := "thing") (by decide)
theorem F_e_CH_CH (X : K.In h) (G : h.Ns mainGlobals mg) (c : CC K) : PySem.W.exmOne K (.ref (He.ga K "NoThing")) (.ref (He.ga K "NoThing")) = some true := He.exm_ok ((c_0 c).fact 103 (f := He.Fa.exm "NoThing" "NoThing" true) rfl)
theorem F_e_CF_CH (X : K.In h) (G : h.Ns mainGlobals mg) (c : CC K) : PySem.W.exmOne K (.ref (He.ga K "NoField")) (.ref (He.ga K "NoThing")) = some false := He.exm_ok ((c_0 c).fact 104 (f := He.Fa.exm "NoField" "NoThing" false) rfl)
theorem F_e_CF_CF (X : K.In h) (G : h.Ns mainGlobals mg) (c : CC K) : PySem.W.exmOne K (.ref (He.ga K "NoField")) (.ref (He.ga K "NoField")) = some true := He.exm_ok ((c_0 c).fact 105 (f := He.Fa.exm "NoField" "NoField" true) rfl)
theorem F_t_hFAIL (X : K.In h) (G : h.Ns mainGlobals mg) (c : CC K) : ∃ a, mg "FAIL" = some (.ref a) ∧ ∀ H, SqT K H a [.str "fail"] := ⟨_, He.glo_ok X G ((c_0 c).fact 106 (f := He.Fa.glo "FAIL") rfl), fun H => He.tupB_ok (xs_at (d_0 c) 0 rfl) H⟩
theorem facts {P : Program} {w : World} {f : Addr} (X : K.In h) (G : h.Ns mainGlobals mg) (hfa : mg ("law" : Str) = some (.ref f)) (c : CC K) :
  ∃ fd : FuncData, (∀ (s : Shared) (v : Value), BindsTo s fd ⟨[v], []⟩ [("_law_script", v)]) ∧ ∀ base : Heap, K.In base → base.Ns mainGlobals mg → L2.FnOk P w K mg base CX0 20 f fd ["_law_script"] (spLaw K) := by
 obtain ⟨fd, F⟩ := (c_0 c).def_ 43 (d := ⟨("law", none), "law", "law", defArgs s_law, defBody s_law, defScope s_law, [], []⟩) rfl
 have F : FunD K "law" "law" (defArgs s_law) (defBody s_law) (defScope s_law) [] [] (He.ga K "law") fd := F
 have e := hfa.symm.trans (He.glo_ok X G ((c_0 c).fact 43 (f := He.Fa.glo "law") rfl))
 cases e
 have b := FunD.bindsA (ps := ["_law_script"]) F fun _ _ _ _ _ _ us hl => match us, hl with | [_], _ => rfl
 refine ⟨fd, fun s v => b s [v] rfl, fun base _ _ => ?_⟩
 exact (all_ok ⟨fun_ofD F, F.bindsN (fun _ _ _ _ _ _ us hl => match us, hl with | [_], _ => rfl), He.glo_ok X G ((c_0 c).fact 43 (f := He.Fa.glo "law") rfl)⟩ (F_D_is_name X G c) (F_D_is_key X G c) (F_D_is_table X G c) (F_D_is_choice X G c) (F_D_is_fields X G c) (F_D_is_kind X G c) (F_D_has_fields X G c) (F_D_is_union X G c) (F_D_is_face X G c) (F_D_check_names X G c) (F_D_check_schema X G c) (F_D_Lbox X G c) (F_D_Ldraw X G c) (F_D_Lwords X G c) (F_D_Lshape X G c) (F_D_Lkind X G c) (F_D_Lschema X G c) (F_D_Lmembers X G c) (F_D_Lmade X G c) (F_D_Lsame X G c) (F_D_Lstrange X G c) (F_D_is_sure X G c) (F_D_is_plain_int X G c) (F_D_is_value X G c) (F_D_is_thing X G c) (F_D_check_things X G c) (F_D_check_values X G c) (F_D_is_number X G c) (F_D_is_text X G c) (F_D_check_store X G c) (F_D_copied X G c) (F_D_copied_fields X G c) (F_D_Ltarget X G c) (F_D_Lnumber X G c) (F_D_Ltext X G c) (F_D_Lvalue X G c) (F_D_Lthings X G c) (F_D_Lcopy X G c) (F_D_Lpick X G c) (F_D_Lhanded X G c) (F_D_Lmissing X G c) (F_D_Lchanged X G c) (F_D_is_shape X G c) (F_M_bases X G c) (F_M_shapes_at X G c) (F_M_fields X G c) (F_M_shape_of X G c) (F_M_members X G c) (F_M_kinds X G c) (F_M_things_CT X G c) (F_M_kind_of_CT X G c) (F_M_fields_with_CT X G c) (F_M_value_CT X G c) (F_IN_Schema X G c) (F_IN_Store X G c) (F_DU_sc X G c) (F_DU_se X G c) (F_B_NoBase X G c) (F_B_NoField X G c) (F_B_NoThing X G c) (F_I_gT12 X G c) (F_I_gT6 X G c) (F_I_gTL X G c) (F_I_gTF X G c) (F_I_gTZ X G c) (F_I_gTB X G c) (F_T X G c) (F_Cs X G c) (F_L_Schema X G c) (F_L_Store X G c) (F_g_Schema X G c) (F_g_Store X G c) (F_g_NoBase X G c) (F_g_NoField X G c) (F_g_NoThing X G c) (F_ci_C X G c) (F_N_habs X G c) (F_N_hord X G c) (F_X_NoBase X G c) (F_X_NoField X G c) (F_X_NoThing X G c) (F_f_NoBase_base X G c) (F_f_NoField_base X G c) (F_f_NoField_field X G c) (F_f_NoThing_thing X G c) (F_e_CH_CH X G c) (F_e_CF_CH X G c) (F_e_CF_CF X G c) (F_t_hFAIL X G c)).mono (by decide)
end
end NW
open PySem PySem.W PySem.Calls PyProof.Rows
set_option maxRecDepth 100000 in
set_option maxHeartbeats 0 in
theorem PySem.Challenge.cw_nestedwishes_k31_store_shows_holds : PySem.Challenge.rw_nestedwishes_k31_store_shows.Holds := by
 w_on
 refine NW.HQ.head ?_
 refine L2.walk_ofE (l := PySem.Challenge.rw_nestedwishes_k31_store_shows) (n := 63) (k := 20) (x := "_law_script") (CX := L2.CX0) rfl (by decide) (by kernel_rfl) ⟨rfl, by decide, by decide⟩ ?F (fun _ _ _ _ z => z)
 intro w mg fa h Y G hmg0
 obtain ⟨K, KX, c⟩ := Y
 have hmg : mg ("law" : PySem.Str) = some (.ref fa) := by
  rw [← NW.HQ.h_n]
  exact hmg0
 obtain ⟨fd, hb, hF⟩ := NW.facts (P := (PySem.Challenge.rw_nestedwishes_k31_store_shows).prog) (w := w) KX G hmg c
 exact ⟨K, fd, NW.spLaw K, KX, hb, fun H a ns hl _ hS => ⟨a, ns, rfl, hS, hl, fun _ => rfl⟩, hF⟩
