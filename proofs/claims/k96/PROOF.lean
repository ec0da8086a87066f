import PyProof.Rows.All
import Wide.All
import OpenK.AllK
import Wide.FinOn
import PySem.Challenge.RW_nestedwishes_k96_whole_schema_texts
import HandS.DeepEq
import HandS.Defaults
import HandS.DictComp
import HandS.DictTup
import HandS.ExcField
import HandS.ExcInit
import HandS.ExcInitHot
import HandS.ExcIs
import HandS.ForExc
import HandS.ForMost
import HandS.HotCalls
import HandS.IsInst
import HandS.More
import HandS.OwnEq
import HandS.Star
import HandS.Strs
import HandS.Style
import HandS.Walk
import KE.KExcIs
import KE.KRevSl
import PyProof.InstNe
import PyProof.P3Eq
set_option Elab.async false
set_option linter.all false
set_option maxRecDepth 100000
set_option maxHeartbeats 4000000
namespace NW
open PySem PySem.Spec PyProof.Rows L2
section
variable {X : Cx} {pins : List (Addr × Obj)} {σ : L2.St} {H : Hp} {s : Shared}
/-- a dict behind a star: its keys -/
theorem star_dk {a : Addr} {kvs : List (Key × V)} {E : Value → Shared → Prop} {Q : List Value → Shared → Prop} (hc : X.calm = true) (I : Inv X pins σ H s) (h : Rd H a (.dK kvs))
    (hQ : ∀ us s', Inv X pins σ H s' → Vals (kvs.map fun kv => kV kv.1) us → Q us s') : PySem.W.StarOf (model X.prog X.w) X.A E (.ref a) Q s := by
  obtain ⟨z, lo, vs, rel, dd⟩ := dk_rd I.hok h
  obtain ⟨ep, hat⟩ := dd.dictAt
  have ek : (kvs.map fun kv => kV kv.1) = vs.map fun p => kV p.1 := by
    have e := congrArg (List.map kV) rel.keys
    rw [List.map_map, List.map_map] at e
    exact e
  have hT : s.TypeIs (.ref a) "dict" := dd.typeIs
  have zz : wpAny (model X.prog X.w) X.A (collect (.ref a)) Q E s := by
    refine PySem.W.kdu_collect (A := X.A) (PySem.W.kdl_dict (knd := mixKind X.prog X.w) (kvs := vs) (ep := ep) lo) (I.ok.hd hc) hat (by rw [← rel.length]; exact z) fun h' tk acc hk hacc => ?_
    have hv : Vals (vs.map fun p => kV p.1) acc.toList := keys_at (by rw [Array.length_toList]; exact hacc.1) fun j v e => hacc.2 j v (by rw [← Array.getElem?_toList]; exact e)
    exact hQ _ _ (I.kept hk) (by rw [ek]; exact hv)
  unfold PySem.W.StarOf notIterableAtAll
  exact wpAny_bind (wpAny_specialOf hT PySem.F.slot_dict_iter.lookup (wpAny_pure ⟨rfl, zz⟩))
def tStarD (te : TE) (t : TA) : TA := fun σ H Q => te σ H fun x H1 => ∃ p kvs, x = V.ref p ∧ Rd H1 p (.dK kvs) ∧ t σ H1 fun ys H2 => Q ((kvs.map fun kv => kV kv.1) ++ ys) H2
/-- *d in a display, d a dict -/
theorem pa_starD {e : Expr} {p : Pos} {es : List Expr} {te : TE} {t : TA} (hc : X.calm = true) (he : PE X e te) (hr : PA X es t) (hs : starEach (.Starred e p :: es) X.env = (true, eval e X.env) :: starEach es X.env := by rfl) :
    PA X (.Starred e p :: es) (tStarD te t) := by
  refine ⟨fun pos pins s σ H Q I h => ?_⟩
  refine PySem.W.items_star (thn (he.run pins s σ H _ I h) fun v s1 ⟨y, H1, I1, ry, a, xs, ey, hx, q⟩ => ?_) hs
  subst ey
  obtain rfl : v = Value.ref a := ry
  refine star_dk hc I1 hx fun us s2 I2 rv => ?_
  exact thn (hr.run pos pins s2 σ H1 _ I2 q) fun ws s3 ⟨vs, H3, I3, r3, q3⟩ => ⟨_ ++ vs, H3, I3, rv.append r3, q3⟩
/-! in, not in by an own __contains__ -/
structure InM (K : PySem.W.Frag) (C f : Addr) : Prop where
  at_ : PySem.W.findIn K (.ref C) "__contains__" = some (some (.ref f))
  fn : PySem.W.isFn K (.ref f) = true
section
variable {CX : CXT} {k : Nat} {C f : Addr} {fd : FuncData} {ps : List Str} {sp : Sp} {E : XK} {ds : List Value} {dvs : List V}
theorem contains_own {a dx : Addr} {fs : List (Str × V)} {Q : Bool → Hp → Prop} {y : V} {v : Value} (m : InM X.K C f) (F : FnOk X.prog X.w X.K X.mg X.base CX k f fd ps sp) (hr : Room k X.A) (hb : Binds X.K fd ps ds) (hd : Vals dvs ds) (hx : Passes CX X E)
    (I : Inv X pins σ H s) (e : H a = some (.ins C dx fs)) (ry : RelV y v) (h : sp ([.ref a, y] ++ dvs) H (fun r H' => ∃ b, r = .bl b ∧ Q b H') E) :
    wpAny (model X.prog X.w) X.A (contains (.ref a) v) (fun b s' => ∃ H', Inv X pins σ H' s' ∧ Q b H') X.xe s := by
  obtain ⟨mA, O, r, _, _, _⟩ := ins_get I.hok e
  obtain ⟨od, J, hl⟩ := O.look
  have KX := I.kIn
  unfold contains
  refine wpAny_holding (wpAny_bind (wpAny_bind (J.type.here ((PySem.W.looks_findIn KX m.at_).here ?_))))
  rw [if_neg (by simp)]
  refine wpAny_bind (PySem.W.unlessNone_K KX J m.at_ m.fn ?_)
  refine thn (run_fn (us := [.ref a, v]) (vs := [.ref a, y]) F hr hb hd hx I (.cons rfl (.cons ry .nil)) h) fun u s' ⟨x, H', I', rx, b, ex, q⟩ => ?_
  subst ex
  cases rx
  exact wpAny_truthy_bool ⟨H', I', q⟩
theorem op_in_own (m : InM X.K C f) (F : FnOk X.prog X.w X.K X.mg X.base CX k f fd ps sp) (hr : Room k X.A) (hb : Binds X.K fd ps ds) (hd : Vals dvs ds) (hx : Passes CX X E) :
    OpR X (compareOp .In) (fun x y H Q => ∃ a dx fs, y = .ref a ∧ H a = some (.ins C dx fs) ∧ sp ([.ref a, x] ++ dvs) H (fun r H' => ∃ b, r = .bl b ∧ Q (.bl b) H') E) := by
  intro pins s σ H x y u v Q I rx ry h
  obtain ⟨a, dx, fs, rfl, ea, q⟩ := h
  cases ry
  exact wpAny_bind (thn (contains_own (Q := fun b H' => Q (.bl b) H') m F hr hb hd hx I ea rx q) fun b s' ⟨H', I', q'⟩ => wpAny_pure ⟨.bl b, H', I', rfl, q'⟩)
theorem op_notIn_own (m : InM X.K C f) (F : FnOk X.prog X.w X.K X.mg X.base CX k f fd ps sp) (hr : Room k X.A) (hb : Binds X.K fd ps ds) (hd : Vals dvs ds) (hx : Passes CX X E) :
    OpR X (compareOp .NotIn) (fun x y H Q => ∃ a dx fs, y = .ref a ∧ H a = some (.ins C dx fs) ∧ sp ([.ref a, x] ++ dvs) H (fun r H' => ∃ b, r = .bl b ∧ Q (.bl (!b)) H') E) := by
  intro pins s σ H x y u v Q I rx ry h
  obtain ⟨a, dx, fs, rfl, ea, q⟩ := h
  cases ry
  exact wpAny_bind (thn (contains_own (Q := fun b H' => Q (.bl (!b)) H') m F hr hb hd hx I ea rx q) fun b s' ⟨H', I', q'⟩ => wpAny_pure ⟨.bl (!b), H', I', rfl, q'⟩)
end
end
end NW
namespace NW
open PySem PySem.Spec PyProof.Rows L2
def topS (i : Nat) : Stmt := PySem.Challenge.pw_nestedwishes_k96_whole_schema_texts.main.body.getD i (.Pass ⟨0, 0, 0, 0⟩)
/-- a def of the text: where it stands, how it binds, its name -/
structure Df (K : PySem.W.Frag) (mg : Str → Option Value) (x : Str) (st : Stmt) (f : Addr) (fd : FuncData) (ps : List Str) : Prop where
  F : Fun K x x st f fd
  b : Binds K fd ps []
  g : mg x = some (.ref f)
/-- built-in names that nobody has bound anew -/
structure Nms (mg : Str → Option Value) : Prop where
  n_len : mg "len" = none
  n_int : mg "int" = none
  n_str : mg "str" = none
  n_list : mg "list" = none
  n_tuple : mg "tuple" = none
  n_dict : mg "dict" = none
  n_set : mg "set" = none
  n_range : mg "range" = none
  n_sorted : mg "sorted" = none
  n_all : mg "all" = none
  n_isinstance : mg "isinstance" = none
  n_enumerate : mg "enumerate" = none
  n_bool : mg "bool" = none
/-! ### heaps that grow, where only the box may change -/
def Gr (b : Addr) (H H' : Hp) : Prop := ∀ a o, a ≠ b → H a = some o → H' a = some o
theorem Gr.refl {b : Addr} {H : Hp} : Gr b H H := fun _ _ _ e => e
theorem Gr.trans {b : Addr} {H H1 H2 : Hp} (x : Gr b H H1) (y : Gr b H1 H2) : Gr b H H2 := fun a o n e => y a o n (x a o n e)
theorem Gr.box {b : Addr} {H : Hp} {o : HO} : Gr b H (upd H b o) := fun a u n e => by rw [upd_ne n]; exact e
theorem Gr.new {b p : Addr} {H : Hp} {o : HO} (h : H p = none) : Gr b H (upd H p o) := fun a u _ e => by rw [upd_ne (ne_of_none e h)]; exact e
theorem Same.gr {b : Addr} {H H' : Hp} (h : L2.Same H H') : Gr b H H' := fun a o _ e => h a o e
/-- an object that is new behind H may change -/
theorem Gr.upd {b p : Addr} {H H1 : Hp} {o : HO} (x : Gr b H H1) (h : H p = none) : Gr b H (upd H1 p o) := fun a u n e => by rw [upd_ne (ne_of_none e h)]; exact x a u n e
theorem Gr.free {b p : Addr} {H H1 : Hp} (x : Gr b H H1) (n : p ≠ b) (h : H1 p = none) : H p = none := by
  cases q : H p with
  | none => rfl
  | some o => rw [x p o n q] at h; cases h
theorem Gr.tup {K : PySem.W.Frag} {b a : Addr} {H H' : Hp} {xs ys : List V} (x : Gr b H H') (hb : H b = some (.lst ys)) (h : SqT K H a xs) : SqT K H' a xs := by
  rcases h with (h | ⟨o, h⟩) | h
  · exact .inl (.inl (x _ _ (ne_of h hb (by intro z; cases z)) h))
  · exact .inl (.inr ⟨o, x _ _ (ne_of h hb (by intro z; cases z)) h⟩)
  · exact .inr h
theorem Gr.lst {K : PySem.W.Frag} {b a : Addr} {H H' : Hp} {xs : List V} (x : Gr b H H') (n : a ≠ b) (h : SqL K H a xs) : SqL K H' a xs := by
  rcases h with (h | ⟨o, h⟩) | h
  · exact .inl (.inl (x _ _ n h))
  · exact .inl (.inr ⟨o, x _ _ n h⟩)
  · exact .inr h
/-! ### the box -/
def bl (r : Addr) (i g z c : Int) : List V := [.ref r, .int i, .int g, .int z, .int c]
structure BoxW (H : Hp) (b r : Addr) (ns : List Int) (i g z c : Int) : Prop where
  at_ : H b = some (.lst (bl r i g z c))
  lst : H r = some (.lst (ns.map V.int))
  ne : r ≠ b
  len : ns.length ≤ 63
  i0 : 0 ≤ i
  z0 : 0 ≤ z
  z1 : z < 2147483648
def Box (H : Hp) (b r : Addr) : Prop := ∃ ns i g z c, BoxW H b r ns i g z c
theorem Box.lst {H : Hp} {b r : Addr} (h : Box H b r) : ∃ xs, H b = some (.lst xs) := by
  obtain ⟨ns, i, g, z, c, w⟩ := h
  exact ⟨_, w.at_⟩
theorem Box.rls {H : Hp} {b r : Addr} (h : Box H b r) : ∃ xs, H r = some (.lst xs) := by
  obtain ⟨ns, i, g, z, c, w⟩ := h
  exact ⟨_, w.lst⟩
theorem Box.gr {H H' : Hp} {b r : Addr} (h : Box H b r) (x : Gr b H H') (e : H' b = H b) : Box H' b r := by
  obtain ⟨ns, i, g, z, c, w⟩ := h
  exact ⟨ns, i, g, z, c, by rw [e]; exact w.at_, x _ _ w.ne w.lst, w.ne, w.len, w.i0, w.z0, w.z1⟩
theorem Box.new {H : Hp} {b r p : Addr} {o : HO} (h : Box H b r) (hp : H p = none) : Box (upd H p o) b r := by
  obtain ⟨xs, e⟩ := h.lst
  exact h.gr (Gr.new hp) (upd_ne (ne_of_none e hp))
theorem Box.upd {H : Hp} {b r p : Addr} {o : HO} (h : Box H b r) (n : p ≠ b) (hp : p ≠ r) : Box (upd H p o) b r := by
  obtain ⟨ns, i, g, z, c, w⟩ := h
  exact ⟨ns, i, g, z, c, by rw [upd_ne n.symm]; exact w.at_, by rw [upd_ne hp.symm]; exact w.lst, w.ne, w.len, w.i0, w.z0, w.z1⟩
theorem Box.neb {H : Hp} {b r p : Addr} (h : Box H b r) (hp : H p = none) : p ≠ b := by
  obtain ⟨xs, e⟩ := h.lst
  exact (ne_of_none e hp).symm
theorem Box.ner {H : Hp} {b r p : Addr} (h : Box H b r) (hp : H p = none) : p ≠ r := by
  obtain ⟨xs, e⟩ := h.rls
  exact (ne_of_none e hp).symm
theorem BoxW.set {H : Hp} {b r : Addr} {ns : List Int} {i g z c : Int} (w : BoxW H b r ns i g z c) {i' g' z' c' : Int} (hi : 0 ≤ i') (hz : 0 ≤ z') (hz1 : z' < 2147483648) : BoxW (L2.upd H b (.lst (bl r i' g' z' c'))) b r ns i' g' z' c' :=
  ⟨upd_same, by rw [upd_ne w.ne]; exact w.lst, w.ne, w.len, hi, hz, hz1⟩
theorem BoxW.sq {K : PySem.W.Frag} {H : Hp} {b r : Addr} {ns : List Int} {i g z c : Int} (w : BoxW H b r ns i g z c) : SqL K H b (bl r i g z c) := SqL.of w.at_
theorem at0 {r : Addr} {i g z c : Int} : atI (bl r i g z c) 0 = some (.ref r) := atI_nat (j := 0) rfl
theorem at1 {r : Addr} {i g z c : Int} : atI (bl r i g z c) 1 = some (.int i) := atI_nat (j := 1) rfl
theorem at2 {r : Addr} {i g z c : Int} : atI (bl r i g z c) 2 = some (.int g) := atI_nat (j := 2) rfl
theorem at3 {r : Addr} {i g z c : Int} : atI (bl r i g z c) 3 = some (.int z) := atI_nat (j := 3) rfl
theorem at4 {r : Addr} {i g z c : Int} : atI (bl r i g z c) 4 = some (.int c) := atI_nat (j := 4) rfl
end NW
namespace NW
open PySem PySem.Spec PyProof.Rows L2
/-! ### what follows the first statements, once for all ways -/
theorem cut1 {t1 u : TS} {D : Ends} {σ : L2.St} {H : Hp} (G : L2.St → Hp → Prop) (hr : ∀ σ' H', G σ' H' → u D σ' H') (h : (∀ σ' H', G σ' H' → u D σ' H') → tSeq t1 u D σ H) : tSeq t1 u D σ H := h hr
theorem cut2 {t1 t2 u : TS} {D : Ends} {σ : L2.St} {H : Hp} (G : L2.St → Hp → Prop) (hr : ∀ σ' H', G σ' H' → u D σ' H') (h : (∀ σ' H', G σ' H' → u D σ' H') → tSeq t1 (tSeq t2 u) D σ H) : tSeq t1 (tSeq t2 u) D σ H := h hr
theorem cut3 {t1 t2 t3 u : TS} {D : Ends} {σ : L2.St} {H : Hp} (G : L2.St → Hp → Prop) (hr : ∀ σ' H', G σ' H' → u D σ' H') (h : (∀ σ' H', G σ' H' → u D σ' H') → tSeq t1 (tSeq t2 (tSeq t3 u)) D σ H) : tSeq t1 (tSeq t2 (tSeq t3 u)) D σ H := h hr
end NW
namespace NW
theorem nz {n : Int} (h : (n == 0) = false) : n ≠ 0 := by
  intro e
  rw [e] at h
  cases h
end NW
namespace NW
open PySem PySem.Spec PyProof.Rows L2
/-- a comprehension without tests: its element -/
theorem lcT {σ : L2.St} {H : Hp} {f g : Hp → Prop} (h : f H) : tYes σ H (fun b H3 => if b = true then f H3 else g H3) := by
  show (if true = true then f H else g H)
  rw [if_pos rfl]
  exact h
end NW
namespace NW
open PySem PySem.Spec PyProof.Rows L2
theorem blT {p : Prop} [Decidable p] (h : p) : V.bl (decide p) = V.bl true := by rw [decide_eq_true h]
theorem blF {p : Prop} [Decidable p] (h : ¬ p) : V.bl (decide p) = V.bl false := by rw [decide_eq_false h]
theorem blNT {p : Prop} [Decidable p] (h : ¬ p) : V.bl (!decide p) = V.bl true := by rw [decide_eq_false h]; rfl
theorem blNF {p : Prop} [Decidable p] (h : p) : V.bl (!decide p) = V.bl false := by rw [decide_eq_true h]; rfl
end NW
namespace NW
open PySem PySem.Spec PyProof.Rows L2
open TL (tl joinL tl_join join_eq)
abbrev LET : Str := "abcdefghijklmnopqrstuvwxyz"
theorem let_cps : LET.cps.toList = (List.range 26).map (97 + ·) := by decide +kernel
theorem let_at {k : Nat} (h : k < 26) : LET.cps.toList[k]? = some (97 + k) := by
  rw [let_cps, List.getElem?_map, List.getElem?_range h]
  rfl
theorem let_len : LET.length ≤ sizeLine := by decide +kernel
/-- one to eight small letters -/
structure IsName (z : Str) : Prop where
  len1 : 1 ≤ z.length
  len8 : z.length ≤ 8
  low : ∀ c ∈ tl z, 97 ≤ c ∧ c ≤ 122
abbrev sgn (c : Nat) : Str := ⟨#[c]⟩
theorem tl_sgn (c : Nat) : tl (sgn c) = [c] := rfl
theorem len_tl (z : Str) : z.length = (tl z).length := by
  show z.cps.size = z.cps.toList.length
  rw [Array.length_toList]
theorem tl_cat (x y : Str) : tl (x ++ y) = tl x ++ tl y := by
  show (x.cps ++ y.cps).toList = _
  rw [Array.toList_append]
/-- a word whose last (or first) letter is the t-th one -/
def mark (f : Nat) (z : Str) : Option Nat := if f = 0 then (tl z).getLast? else (tl z).head?
structure GoodW (f t : Nat) (z : Str) : Prop where
  nm : IsName z
  nt : z ≠ "text"
  nn : z ≠ "number"
  mrk : mark f z = some (97 + t)
theorem sgn_good {f t : Nat} (h : t < 26) : GoodW f t (sgn (97 + t)) := by
  refine ⟨⟨?_, ?_, ?_⟩, ?_, ?_, ?_⟩
  · exact Nat.le_refl 1
  · show 1 ≤ 8; decide
  · intro c hc
    rw [tl_sgn] at hc
    have e := List.mem_singleton.mp hc
    omega
  · intro e
    have e2 := congrArg Str.length e
    have : (("text" : Str)).length = 4 := by decide +kernel
    rw [this] at e2
    exact absurd e2 (by show ¬ (1 = 4); decide)
  · intro e
    have e2 := congrArg Str.length e
    have : (("number" : Str)).length = 6 := by decide +kernel
    rw [this] at e2
    exact absurd e2 (by show ¬ (1 = 6); decide)
  · unfold mark
    split <;> rfl
theorem word_good {f t : Nat} {x : Str} {cs : List Nat} (h : t < 26) (hx : tl x = cs) (hl : cs.length ≤ 7) (hc : ∀ c ∈ cs, 97 ≤ c ∧ c ≤ 122)
    (nt : (if f = 0 then x ++ sgn (97 + t) else sgn (97 + t) ++ x) ≠ "text") (nn : (if f = 0 then x ++ sgn (97 + t) else sgn (97 + t) ++ x) ≠ "number") : GoodW f t (if f = 0 then x ++ sgn (97 + t) else sgn (97 + t) ++ x) := by
  have el : (if f = 0 then x ++ sgn (97 + t) else sgn (97 + t) ++ x).length = cs.length + 1 := by
    split <;> (rw [len_tl, tl_cat, List.length_append, tl_sgn, hx, List.length_singleton] <;> omega)
  refine ⟨⟨by omega, by omega, fun c m => ?_⟩, nt, nn, ?_⟩
  · have m2 : c ∈ cs ∨ c = 97 + t := by
      split at m
      · rw [tl_cat, hx, tl_sgn] at m
        rcases List.mem_append.mp m with m | m
        · exact .inl m
        · exact .inr (List.mem_singleton.mp m)
      · rw [tl_cat, hx, tl_sgn] at m
        rcases List.mem_append.mp m with m | m
        · exact .inr (List.mem_singleton.mp m)
        · exact .inl m
    rcases m2 with m2 | m2
    · exact hc c m2
    · omega
  · unfold mark
    by_cases e : f = 0
    · rw [if_pos e, if_pos e, tl_cat, tl_sgn, List.getLast?_append]
      rfl
    · rw [if_neg e, if_neg e, tl_cat, tl_sgn]
      rfl
/-- the words: as many as asked, each marked by its own letter -/
def WordsOk (f sh : Nat) (ws : List Str) : Prop := ∀ k (h : k < ws.length), GoodW f ((sh + k) % 26) ws[k]
theorem WordsOk.snoc {f sh : Nat} {ws : List Str} {z : Str} (h : WordsOk f sh ws) (g : GoodW f ((sh + ws.length) % 26) z) : WordsOk f sh (ws ++ [z]) := by
  intro k hk
  by_cases e : k < ws.length
  · rw [List.getElem_append_left e]
    exact h k e
  · have e2 : k = ws.length := by
      rw [List.length_append, List.length_singleton] at hk
      omega
    subst e2
    rw [List.getElem_append_right (Nat.le_refl _)]
    simp only [Nat.sub_self, List.getElem_cons_zero]
    exact g
theorem WordsOk.nodup {f sh : Nat} {ws : List Str} (h : WordsOk f sh ws) (hl : ws.length ≤ 26) : ws.Nodup := by
  refine List.pairwise_iff_getElem.mpr fun i j hi hj hij e1 => ?_
  have m1 := (h i hi).mrk
  have m2 := (h j hj).mrk
  rw [e1, m2] at m1
  have := Option.some.inj m1
  omega
theorem joinE : ∀ cs : List Nat, tl (Txt.join "" (cs.map fun c => sgn c)) = cs := by
  intro cs
  rw [join_eq, tl_join]
  have e0 : tl ("" : Str) = [] := by decide +kernel
  rw [e0]
  induction cs with
  | nil => rfl
  | cons c r ih =>
    cases r with
    | nil => rfl
    | cons d r =>
      show [c] ++ ([] ++ joinL [] (((d :: r).map fun c => sgn c).map tl)) = c :: d :: r
      rw [ih]
      rfl
theorem sgn_sum : ∀ cs : List Nat, ((cs.map fun c => sgn c).map Str.length).sum = cs.length := by
  intro cs
  induction cs with
  | nil => rfl
  | cons c r ih =>
    show 1 + ((r.map fun c => sgn c).map Str.length).sum = r.length + 1
    rw [ih]
    omega
end NW
namespace NW
open PySem PySem.Spec PyProof.Rows
/-! ### set(t) of a tuple of different texts -/
section
variable {pr : Program} {wl : World} {Ar : Around} {Post : Result → Shared → Prop} {it : Addr} {foot writ : List Addr} {Gn : Array GenState → Array GenState → Prop} {n : Nat} {Pv : Nat → Value → Prop} {Stt : Nat → Shared → Prop}
def inTake (xs : List Str) (i : Nat) : Str → Bool := fun z => decide (z ∈ xs.take i)
theorem inTake_succ {xs : List Str} {i : Nat} (h : i < xs.length) (z : Str) : (inTake xs i z || decide (z = xs.getD i Str.empty)) = inTake xs (i + 1) z := by
  have e : xs.getD i Str.empty = xs[i] := by rw [List.getD_eq_getElem?_getD, List.getElem?_eq_getElem h]; rfl
  unfold inTake
  rw [e, List.take_add_one, List.getElem?_eq_getElem h, Bool.eq_iff_iff]
  simp only [Bool.or_eq_true, decide_eq_true_eq, List.mem_append, Option.toList_some, List.mem_singleton]
theorem inTake_no {xs : List Str} {i : Nat} (nd : xs.Nodup) (h : i < xs.length) : inTake xs i (xs.getD i Str.empty) = false := by
  have e : xs.getD i Str.empty = xs[i] := by rw [List.getD_eq_getElem?_getD, List.getElem?_eq_getElem h]; rfl
  unfold inTake
  rw [e]
  refine decide_eq_false fun m => ?_
  obtain ⟨j, hj, ej⟩ := List.getElem_of_mem m
  rw [List.getElem_take] at ej
  rw [List.length_take] at hj
  have := (List.getElem_inj nd).mp ej
  omega
theorem loopTx (Wk : WalksS pr wl Ar.in1 it foot writ Gn n Pv Stt) (sa : Addr) (out : sa ∉ foot) (xs : List Str) (lenx : xs.length = n) (nd : xs.Nodup) (few : n ≤ 1000) (tx : ∀ i v, Pv i v → ∃ t, v = .str (xs.getD i Str.empty) t) :
    ∀ (k i : Nat) (s : Shared), i + k = n → Stt i s → s.heap.SetOf (PySem.strKind pr wl) sa (inTake xs i) i →
      (∀ s2, Moved (sa :: writ) Gn s s2 → s2.heap.SetOf (PySem.strKind pr wl) sa (inTake xs n) n → Post (.ok (.ret .none)) s2) → codeAny (model pr wl) Ar (.builtin "set.update.loop" ⟨[.ref sa, .ref it], []⟩) Post s := by
  have notW : sa ∉ writ := fun z => out (Wk.sub _ z)
  have more : ∀ b ∈ writ, b ∈ sa :: writ := fun b m => List.mem_cons_of_mem _ m
  have carry : ∀ {s s2 : Shared} {i : Nat}, Moved writ Gn s s2 → s.heap.SetOf (PySem.strKind pr wl) sa (inTake xs i) i → s2.heap.SetOf (PySem.strKind pr wl) sa (inTake xs i) i := fun {s s2 i} mv st => by
    obtain ⟨o, es, ep, tb, ho, r⟩ := st
    exact ⟨o, es, ep, tb, mv.heap sa _ notW ho, r⟩
  intro k
  induction k with
  | zero =>
    intro i s e st held fin
    obtain rfl : i = n := e
    refine codeAny_builtin F.entry_set_update_loop ?_
    rw [Around.under_plainId F.plain_set_update_loop]
    show wpAny _ Ar.in1 (do let y ← pyNext (.ref it); _) _ _ s
    exact wpAny_bind (Wk.done s _ _ st fun s2 mv => wpAny_pure (fin s2 (mv.mono more) (carry mv held)))
  | succ k ih =>
    intro i s e st held fin
    have lt : i < n := by omega
    refine codeAny_builtin F.entry_set_update_loop ?_
    rw [Around.under_plainId F.plain_set_update_loop]
    show wpAny _ Ar.in1 (do let y ← pyNext (.ref it); _) _ _ s
    refine wpAny_bind (Wk.item i s _ _ lt st fun v s2 pv st2 mv => ?_)
    obtain ⟨t, rfl⟩ := tx i v pv
    have held2 := carry mv held
    generalize hz : xs.getD i Str.empty = z at *
    show wpAny _ Ar.in1 (do let _ ← holding [Value.str z t] (setAdd sa (.str z t)); _) _ _ s2
    refine wpAny_bind (wpAny_holding ?_)
    unfold setAdd
    refine wpAny_holding (wpAny_bind ((PySem.strKind pr wl).pyHash (k := z) (strKind_is _ _ _ _) ?_))
    refine wpAny_setAddHashed_of (knd := PySem.strKind pr wl) (s := { s2 with toks := s2.toks + 1 }) (strKind_is _ _ _ _) rfl held2 (by unfold scanBound; omega) fun h3 sb st3 => ?_
    have no : inTake xs i z = false := by rw [← hz]; exact inTake_no nd (by omega)
    have st4 : h3.SetOf (PySem.strKind pr wl) sa (inTake xs (i + 1)) (i + 1) := SetOf_congr st3 (fun y => by rw [← hz]; exact inTake_succ (by omega) y) (by rw [no]; rfl)
    refine wpAny_pure ⟨plainId_quiet F.plain_set_update_loop _, ih (i + 1) _ (by omega) (Wk.frame _ s2 _ _ st2 (Nat.le_succ _) fun b hb o eo => ?_) st4 fun s5 mv5 st5 => ?_⟩
    · rw [sb.2 b fun z => out (z ▸ hb)]
      exact eo
    · refine fin s5 (Moved.trans Wk.gtrans ((mv.mono more).then_heap (Nat.le_succ _) fun b o hb eo => ?_) mv5) st5
      rw [sb.2 b fun z => hb (z ▸ List.mem_cons_self)]
      exact eo
set_option maxHeartbeats 8000000 in
theorem setTx {tu : Addr} {its : Array Value} {xs : List Str} {Qv : Value → Shared → Prop} {Ex : Value → Shared → Prop} {s : Shared} (calm : Ar.handled = none) (tup : s.heap.IsTuple tu its) (txt : StrsAre its.toList xs) (nd : xs.Nodup) (few : xs.length ≤ 1000)
    (go : ∀ (h2 : Heap) (tk : Nat), h2.SetOf (PySem.strKind pr wl) s.heap.objs.size (inTake xs its.size) its.size → (∀ b o, b < s.heap.objs.size → s.heap.get? b = some o → h2.get? b = some o) → Qv (.ref s.heap.objs.size) { s with heap := h2, toks := tk }) :
    wpAny (model pr wl) Ar (call (.type "set") [.ref tu]) Qv Ex s := by
  obtain ⟨c0, tl0, hmro⟩ := PySem.F.called_set.mro
  have hmade := PySem.F.called_set.made
  have hsub := PySem.F.called_set.sub
  refine wpAny_call (codeAny_of_tree ?_)
  show wpAny _ _ (callAny (.type "set") _) _ _ _
  refine wpAny_pure ⟨Code.quiet_builtin _ (by decide +kernel), codeAny_builtin PySem.F.entry_type_call ?_⟩
  rw [Around.under_plain (weight_type_call_type "set" [.ref tu] []) rfl]
  have q1 := PySem.F.called_set.notType
  have q2 := PySem.F.called_set.canCreate
  have q3 := PySem.F.typeCall_set_1 (.ref tu)
  repeat (any_goals (first | assumption | wp_step))
  generalize hnew : s.heap.objs.size = new at *
  refine codeAny_mono (code_set_new_1 (.ref tu) (E := Ex) (Q₁ := fun u s1 => ∃ led : Bool, u = .ref new ∧ s1 = { s with heap := s.heap.push { cls := .type "set", dict := none, data := .set #[] 0 (.fresh 0 0 led) } }) fun led => ⟨led, by rw [hnew], rfl⟩) fun res s1 hres => ?_
  match res, hres with
  | .error _, hres => exact hres
  | .ok (.ret u), hres =>
    obtain ⟨led, rfl, rfl⟩ := hres
    have at1 : (s.heap.push ({ cls := .type "set", dict := none, data := .set #[] 0 (.fresh 0 0 led) } : Obj)).get? new = some ({ cls := .type "set", dict := none, data := .set #[] 0 (.fresh 0 0 led) } : Obj) := by
      rw [← hnew]
      exact Heap.get?_push_size _ rfl
    have isS : Shared.TypeIs { s with heap := s.heap.push ({ cls := .type "set", dict := none, data := .set #[] 0 (.fresh 0 0 led) } : Obj) } (.ref new) "set" := ⟨_, at1, rfl⟩
    have q4 := PySem.F.called_set.init.lookup
    have q5 := PySem.F.called_set.init.bind (.ref new)
    repeat (any_goals (first | assumption | wp_step))
    refine codeAny_mono (codeAny_call_builtin (R := wants (fun r s2 => r = .none ∧ ∃ h2 tk, s2 = { s with heap := h2, toks := tk } ∧ h2.SetOf (PySem.strKind pr wl) new (inTake xs its.size) its.size ∧ (∀ b o, b < new → s.heap.get? b = some o → h2.get? b = some o)) Ex)
      PySem.F.called_set.init.plain PySem.F.entry_set_init (check_set_init_1 isS ?_)) fun r2 s2 hr2 => ?_
    · obtain ⟨⟨oc, od, odat, osl⟩, at0, hcl, nl, hdl⟩ := tup
      simp only at hcl hdl
      subst hcl hdl
      have at2 : (s.heap.push ({ cls := .type "set", dict := none, data := .set #[] 0 (.fresh 0 0 led) } : Obj)).get? tu = some { cls := .type "tuple", dict := od, data := .seq its nl, slots := osl } := Heap.get?_push_of_some _ at0
      have q6 := PySem.F.sub_tuple_set
      have q7 := PySem.F.sub_tuple_frozenset
      have q8 : (Value.type "tuple" == Value.type "dict") = false := by decide
      have tup2 : (s.heap.push ({ cls := .type "set", dict := none, data := .set #[] 0 (.fresh 0 0 led) } : Obj)).IsTuple tu its := ⟨_, at2, rfl, nl, rfl⟩
      unfold Builtin.«set.__init__» noKeywords Builtin.Frozenset.updateFrom
      generalize hPI : pyIter = PI
      wp_walk
      subst hPI
      refine wpAny_pyIter_tuple tup2 ?_
      refine wpAny_bind (wpAny_runValue ?_)
      have below : tu < new := by rw [← hnew]; exact Heap.lt_size at0
      have hsize : (s.heap.push ({ cls := .type "set", dict := none, data := .set #[] 0 (.fresh 0 0 led) } : Obj)).objs.size = new + 1 := by rw [Heap.size_push, hnew]
      have apart : tu ≠ (s.heap.push ({ cls := .type "set", dict := none, data := .set #[] 0 (.fresh 0 0 led) } : Obj)).objs.size := by rw [hsize]; exact Nat.ne_of_lt (Nat.lt_succ_of_lt below)
      have notIn : new ∉ [(s.heap.push ({ cls := .type "set", dict := none, data := .set #[] 0 (.fresh 0 0 led) } : Obj)).objs.size, tu] := by
        rw [hsize]
        simp only [List.mem_cons, List.not_mem_nil, or_false, not_or]
        exact ⟨Nat.ne_of_lt (Nat.lt_succ_self _), Nat.ne_of_gt below⟩
      have lenx : xs.length = its.size := by rw [← StrsAre.len_eq txt, Array.length_toList]
      have vals : ∀ (i : Nat) (v : Value), its[i]? = some v → ∃ t, v = .str (xs.getD i Str.empty) t := fun i v e => SS.strs_at txt i v (by rw [Array.getElem?_toList]; exact e)
      have calm3 : Ar.in1.in1.in1.handled = none := by simp [calm]
      refine loopTx ((Walks.tuple calm3 _ tu apart its).toS) new notIn xs lenx nd (by omega) vals its.size 0 _ (by omega) ⟨⟨_, Heap.get?_push_size _ rfl, rfl, rfl⟩, tup2.push _⟩ ?start ?fin
      case start =>
        have at3 : ((s.heap.push ({ cls := .type "set", dict := none, data := .set #[] 0 (.fresh 0 0 led) } : Obj)).push { cls := .type "tuple_iterator", data := .fields #[.ref tu, .int 0 0] }).get? new = some ({ cls := .type "set", dict := none, data := .set #[] 0 (.fresh 0 0 led) } : Obj) := Heap.get?_push_of_some _ at1
        exact SetOf_congr ((setObjOf_fresh (knd := PySem.strKind pr wl) led).setOf at3 (by unfold scanBound; omega)) (fun _ => rfl) rfl
      case fin =>
        intro s5 mv st5
        obtain ⟨h5, g5, d5, tk5, os5⟩ := s5
        obtain rfl : g5 = s.gens := mv.gens
        obtain rfl : d5 = s.drawn := mv.drawn
        obtain rfl : os5 = s.os := mv.os
        show wpAny _ _ _ _ _ _
        refine wpAny_pure ?_
        show wpAny _ _ (ret Value.none) _ _ _
        refine wpAny_pure ⟨rfl, h5, tk5, rfl, st5, fun b o hb eo => mv.heap b o ?_ (Heap.get?_push_of_some _ (Heap.get?_push_of_some _ eo))⟩
        rw [hsize]
        simp only [List.mem_cons, List.not_mem_nil, or_false, not_or]
        exact ⟨Nat.ne_of_lt hb, Nat.ne_of_lt (Nat.lt_succ_of_lt hb)⟩
    · match r2, hr2 with
      | .error _, hr2 => exact hr2
      | .ok (.ret u), hr2 =>
        obtain ⟨rfl, h2, tk, rfl, st2, kept⟩ := hr2
        repeat (any_goals (first | assumption | wp_step))
        exact go _ _ st2 kept
      | .ok .next, hr2 => exact hr2.elim
      | .ok .brk, hr2 => exact hr2.elim
      | .ok .cont, hr2 => exact hr2.elim
  | .ok .next, hres => exact hres.elim
  | .ok .brk, hres => exact hres.elim
  | .ok .cont, hres => exact hres.elim
end
end NW
namespace NW
open PySem PySem.Spec PyProof.Rows L2
open TL (tl)
section
variable {X : Cx} {pins : List (Addr × Obj)} {σ : L2.St} {H : Hp} {s : Shared}
/-- in, of a list, a tuple or a dict -/
theorem op_in_any (hu : X.A.units + 1 < cLine) : OpR X (compareOp .In) (fun x y H Q => rIn X.K false x y H Q ∨ ∃ a o, y = .ref a ∧ DGet H a x o ∧ Q (.bl o.isSome) H) := by
  intro pins s σ H x y v u Q I rx ry h
  rcases h with h | ⟨a, o, rfl, g, q⟩
  · exact op_in_seq pins s σ H x y v u Q I rx ry h
  · obtain rfl : u = Value.ref a := ry
    exact d_in hu I g rx fun _ I3 => ⟨.bl o.isSome, H, I3, rfl, q⟩
/-- len of a dict, also of one that is walked -/
theorem call_lenR : CallR X (.builtin "len") (fun xs H Q => ∃ a kvs, xs = [V.ref a] ∧ Rd H a (.dK kvs) ∧ Q (.int kvs.length) H) := by
  intro pins s σ H xs us Q I r h
  obtain ⟨a, kvs, rfl, ha, q⟩ := h
  rw [Vals.ref1 r]
  exact d_len I ha fun t _ I2 => ⟨.int kvs.length, H, I2, ⟨t, rfl⟩, q⟩
/-- what len(set(xs)) asks: different texts in a tuple -/
def tLenSetN (K : PySem.W.Frag) (ta : TE) : TE := fun σ H Q => ta σ H fun x H1 => ∃ l, ∃ xs : List Str, x = .ref l ∧ SqT K H1 l (xs.map V.str) ∧ xs.Nodup ∧ xs.length ≤ 1000 ∧ Q (.int xs.length) H1
theorem pe_lenSetN {a : Expr} {ta : TE} {p p2 q pos : Pos} (hc : X.calm = true) (hg : Gl X "len") (hm : X.mg "len" = none) (hg2 : Gl X "set") (hm2 : X.mg "set" = none) (ha : PE X a ta)
    (na : starEach [a] X.env = (false, eval a X.env) :: starEach [] X.env := by rfl) : PE X (.Call (.Name "len" p) [.Call (.Name "set" p2) [a] [] q] [] pos) (tLenSetN X.K ta) := by
  refine ⟨fun pins s σ H Q I h => ?_⟩
  refine Call_ (ld_blt I hg hm boot_len ?_)
  refine PyProof.Rows.callWith_builtin1 (args_cons (Call_ (ld_blt I hg2 hm2 boot_set (PyProof.Rows.callWith_type1 (args_cons (thn (ha.run pins s σ H _ I h) fun v s1 ⟨x, H1, I1, r1, tu, xs, ex, ht, nd, few, q1⟩ => args_nil ?_) na) na rfl))) rfl) rfl rfl
  subst ex
  cases r1
  obtain ⟨its, rv, pl, _⟩ := I1.tuple ht
  refine setTx (I1.ok.hd hc) pl (by simpa using strsAre_of rv) nd few fun h2 tk st kept => ?_
  refine args_nil ?_
  have en : its.toArray.size = xs.length := by rw [List.size_toArray, ← rv.length, List.length_map]
  rw [en] at st
  obtain ⟨o, es, ep, t, ho, hex, hd, _, _, _, hf, hn⟩ := st
  have I2 : Inv X pins σ H1 { s1 with heap := h2, toks := tk } := I1.kept fun b o e => kept b o (Heap.lt_size e) e
  exact call_len_set ho hex hd hf (by rw [hn]; omega) ⟨.int xs.length, H1, I2.tok _, ⟨_, by rw [hn]⟩, q1⟩
end
/-! ### shapes in the heap -/
inductive Shp where
  | base (z : Str)
  | sure (s : Shp)
  | list (s : Shp)
  deriving DecidableEq
def ShAt (H : Hp) : V → Shp → Prop
  | v, .base z => v = .str z
  | v, .sure s => ∃ a u, v = .ref a ∧ H a = some (.tup [.str "sure", u]) ∧ ShAt H u s
  | v, .list s => ∃ a u, v = .ref a ∧ H a = some (.tup [.str "list", u]) ∧ ShAt H u s
theorem ShAt.gr {b : Addr} {H H' : Hp} {xs : List V} (hb : H b = some (.lst xs) ∨ ∃ kvs, H b = some (.dK kvs)) (x : Gr b H H') : ∀ {s : Shp} {v : V}, ShAt H v s → ShAt H' v s := by
  have ne : ∀ {a : Addr} {ys : List V}, H a = some (.tup ys) → a ≠ b := by
    intro a ys e
    rcases hb with h | ⟨_, h⟩
    · exact ne_of e h (by intro z; cases z)
    · exact ne_of e h (by intro z; cases z)
  intro s
  induction s with
  | base z => intro v h; exact h
  | sure s ih =>
    rintro v ⟨a, u, e, ha, hu⟩
    exact ⟨a, u, e, x _ _ (ne ha) ha, ih hu⟩
  | list s ih =>
    rintro v ⟨a, u, e, ha, hu⟩
    exact ⟨a, u, e, x _ _ (ne ha) ha, ih hu⟩
theorem ShAt.same {H H' : Hp} (x : Same H H') : ∀ {s : Shp} {v : V}, ShAt H v s → ShAt H' v s := by
  intro s
  induction s with
  | base z => intro v h; exact h
  | sure s ih =>
    rintro v ⟨a, u, e, ha, hu⟩
    exact ⟨a, u, e, x _ _ ha, ih hu⟩
  | list s ih =>
    rintro v ⟨a, u, e, ha, hu⟩
    exact ⟨a, u, e, x _ _ ha, ih hu⟩
/-- with room for n more wrappers, o: the wrapper around is "sure" -/
def okS (bases : List Str) : Nat → Bool → Shp → Prop
  | _, _, .base z => z ∈ bases
  | 0, _, .sure _ => False
  | 0, _, .list _ => False
  | n + 1, o, .sure s => o = false ∧ okS bases n true s
  | n + 1, _, .list s => okS bases n false s
/-! ### fields, kinds, faces, unions in the heap -/
abbrev Fld := Str × V × Shp
def fkv (fs : List Fld) : List (Key × V) := fs.map fun f => ((Sum.inr f.1 : Key), f.2.1)
structure FldAt (H : Hp) (d : Addr) (fs : List Fld) : Prop where
  at_ : H d = some (.dK (fkv fs))
  sh : ∀ f ∈ fs, ShAt H f.2.1 f.2.2
structure KRow where
  nm : Str
  t : Addr
  fa : Addr
  da : Addr
  fcs : List Str
  fds : List Fld
structure KRow.At (H : Hp) (k : KRow) : Prop where
  t : H k.t = some (.tup [.ref k.fa, .ref k.da])
  f : H k.fa = some (.tup (k.fcs.map V.str))
  d : FldAt H k.da k.fds
structure FRow where
  nm : Str
  da : Addr
  fds : List Fld
structure URow where
  nm : Str
  t : Addr
  ms : List Str
def kkv (ks : List KRow) : List (Key × V) := ks.map fun k => ((Sum.inr k.nm : Key), V.ref k.t)
def fkvs (fs : List FRow) : List (Key × V) := fs.map fun k => ((Sum.inr k.nm : Key), V.ref k.da)
def ukv (us : List URow) : List (Key × V) := us.map fun k => ((Sum.inr k.nm : Key), V.ref k.t)
structure SchAt (H : Hp) (kt ft ut : Addr) (ks : List KRow) (fs : List FRow) (us : List URow) : Prop where
  kd : H kt = some (.dK (kkv ks))
  fd : H ft = some (.dK (fkvs fs))
  ud : H ut = some (.dK (ukv us))
  ka : ∀ k ∈ ks, k.At H
  fa : ∀ f ∈ fs, FldAt H f.da f.fds
  ua : ∀ u ∈ us, H u.t = some (.tup (u.ms.map V.str))
/-- an object that is neither a tuple nor a dict -/
def Oth (H : Hp) (b : Addr) : Prop := ∃ o, H b = some o ∧ (∀ xs, o ≠ .tup xs) ∧ ∀ kvs, o ≠ .dK kvs
theorem Oth.lst {H : Hp} {b : Addr} {xs : List V} (h : H b = some (.lst xs)) : Oth H b := ⟨_, h, (by intro _ z; cases z), (by intro _ z; cases z)⟩
theorem Oth.ins {H : Hp} {b C dx : Addr} {fs : List (Str × V)} (h : H b = some (.ins C dx fs)) : Oth H b := ⟨_, h, (by intro _ z; cases z), (by intro _ z; cases z)⟩
theorem Oth.net {H : Hp} {a b : Addr} {xs : List V} (h : Oth H b) (e : H a = some (.tup xs)) : a ≠ b := by
  obtain ⟨o, ho, h1, _⟩ := h
  exact ne_of e ho fun z => h1 _ z.symm
theorem Oth.ned {H : Hp} {a b : Addr} {kvs : List (Key × V)} (h : Oth H b) (e : H a = some (.dK kvs)) : a ≠ b := by
  obtain ⟨o, ho, _, h1⟩ := h
  exact ne_of e ho fun z => h1 _ z.symm
theorem ShAt.grO {b : Addr} {H H' : Hp} (hb : Oth H b) (x : Gr b H H') : ∀ {s : Shp} {v : V}, ShAt H v s → ShAt H' v s := by
  intro s
  induction s with
  | base z => intro v h; exact h
  | sure s ih =>
    rintro v ⟨a, u, e, ha, hu⟩
    exact ⟨a, u, e, x _ _ (hb.net ha) ha, ih hu⟩
  | list s ih =>
    rintro v ⟨a, u, e, ha, hu⟩
    exact ⟨a, u, e, x _ _ (hb.net ha) ha, ih hu⟩
theorem FldAt.gr {b : Addr} {H H' : Hp} {d : Addr} {fs : List Fld} (hb : Oth H b) (x : Gr b H H') (h : FldAt H d fs) : FldAt H' d fs :=
  ⟨x _ _ (hb.ned h.at_) h.at_, fun f m => (h.sh f m).grO hb x⟩
theorem KRow.At.gr {b : Addr} {H H' : Hp} {k : KRow} (hb : Oth H b) (x : Gr b H H') (h : k.At H) : k.At H' :=
  ⟨x _ _ (hb.net h.t) h.t, x _ _ (hb.net h.f) h.f, h.d.gr hb x⟩
theorem SchAt.gr {b : Addr} {H H' : Hp} {kt ft ut : Addr} {ks : List KRow} {fs : List FRow} {us : List URow} (hb : Oth H b) (x : Gr b H H') (h : SchAt H kt ft ut ks fs us) : SchAt H' kt ft ut ks fs us :=
  ⟨x _ _ (hb.ned h.kd) h.kd, x _ _ (hb.ned h.fd) h.fd, x _ _ (hb.ned h.ud) h.ud, fun k m => (h.ka k m).gr hb x, fun f m => (h.fa f m).gr hb x,
    fun u m => x _ _ (hb.net (h.ua u m)) (h.ua u m)⟩
theorem FldAt.same {H H' : Hp} {d : Addr} {fs : List Fld} (x : Same H H') (h : FldAt H d fs) : FldAt H' d fs := ⟨x _ _ h.at_, fun f m => (h.sh f m).same x⟩
theorem KRow.At.same {H H' : Hp} {k : KRow} (x : Same H H') (h : k.At H) : k.At H' := ⟨x _ _ h.t, x _ _ h.f, h.d.same x⟩
theorem SchAt.same {H H' : Hp} {kt ft ut : Addr} {ks : List KRow} {fs : List FRow} {us : List URow} (x : Same H H') (h : SchAt H kt ft ut ks fs us) : SchAt H' kt ft ut ks fs us :=
  ⟨x _ _ h.kd, x _ _ h.fd, x _ _ h.ud, fun k m => (h.ka k m).same x, fun f m => (h.fa f m).same x, fun u m => x _ _ (h.ua u m)⟩
/-! ### a schema as it should be -/
structure FdsOk (bases : List Str) (fds : List Fld) (most : Nat) : Prop where
  n0 : 1 ≤ fds.length
  n1 : fds.length ≤ most
  nd : (fds.map (·.1)).Nodup
  nm : ∀ f ∈ fds, IsName f.1
  sh : ∀ f ∈ fds, okS bases 4 false f.2.2
  tx : ∀ z ∈ bases, PyData.strOk z = true
def bsOf (ks : List KRow) (fs : List FRow) (us : List URow) : List Str := [("number" : Str), ("text" : Str)] ++ (ks.map (·.nm) ++ (fs.map (·.nm) ++ us.map (·.nm)))
structure SchOk (ks : List KRow) (fs : List FRow) (us : List URow) (root : Str) : Prop where
  k0 : 1 ≤ ks.length
  k1 : ks.length ≤ 6
  f1 : fs.length ≤ 3
  u1 : us.length ≤ 3
  nd : (bsOf ks fs us).Nodup
  nk : ∀ k ∈ ks, IsName k.nm
  nf : ∀ k ∈ fs, IsName k.nm
  nu : ∀ k ∈ us, IsName k.nm
  kf : ∀ k ∈ ks, k.fcs.Nodup ∧ (∀ z ∈ k.fcs, z ∈ fs.map (·.nm)) ∧ k.fcs.length ≤ 3
  kd : ∀ k ∈ ks, FdsOk (bsOf ks fs us) k.fds 5
  fd : ∀ f ∈ fs, FdsOk (bsOf ks fs us) f.fds 4
  fk : ∀ f ∈ fs, ∃ k ∈ ks, f.nm ∈ k.fcs
  ff : ∀ f ∈ fs, ∀ k ∈ ks, f.nm ∈ k.fcs → ∀ x ∈ f.fds, ∃ y ∈ k.fds, y.1 = x.1 ∧ y.2.2 = x.2.2
  ud : ∀ u ∈ us, u.ms.Nodup ∧ 1 ≤ u.ms.length ∧ u.ms.length ≤ 4 ∧ ∀ z ∈ u.ms, z ∈ ks.map (·.nm)
  rt : root ∈ ks.map (·.nm)
/-! ### a dict by its texts -/
theorem valV_nd {κ : Type} [DecidableEq κ] : ∀ {kvs : List (κ × V)} {k : κ} {v : V}, (kvs.map (·.1)).Nodup → (k, v) ∈ kvs → valV kvs k = some v
  | [], _, _, _, m => by cases m
  | p :: r, k, v, nd, m => by
    have nd' : p.1 ∉ r.map (·.1) ∧ (r.map (·.1)).Nodup := List.nodup_cons.mp nd
    by_cases e : p.1 = k
    · have ev : (k, v) = p := by
        rcases List.mem_cons.mp m with m | m
        · exact m
        · exact absurd (e ▸ List.mem_map.mpr ⟨_, m, rfl⟩) nd'.1
      unfold valV
      rw [List.find?_cons_of_pos (by simpa using e), ← ev]
      rfl
    · rcases List.mem_cons.mp m with m | m
      · exact absurd (by rw [← m]) e
      · unfold valV
        rw [List.find?_cons_of_neg (by simpa using e)]
        exact valV_nd nd'.2 m
theorem valV_map {α : Type} {l : List α} {f : α → Str} {g : α → V} (nd : (l.map f).Nodup) {a : α} (m : a ∈ l) : valV (l.map fun a => ((Sum.inr (f a) : Key), g a)) (Sum.inr (f a)) = some (g a) := by
  refine valV_nd ?_ (List.mem_map.mpr ⟨a, m, rfl⟩)
  rw [List.map_map]
  have : (l.map f).map (Sum.inr : Str → Key) = l.map (Prod.fst ∘ fun a => ((Sum.inr (f a) : Key), g a)) := by rw [List.map_map]; rfl
  rw [← this]
  exact (List.pairwise_map.mpr (nd.imp fun h e => h (Sum.inr.inj e)))
theorem valV_out {α : Type} {l : List α} {f : α → Str} {g : α → V} {z : Str} (m : z ∉ l.map f) : valV (l.map fun a => ((Sum.inr (f a) : Key), g a)) (Sum.inr z) = none := by
  unfold valV
  rw [List.find?_eq_none.mpr]
  · rfl
  · intro x hx
    obtain ⟨a, ha, rfl⟩ := List.mem_map.mp hx
    simp only [decide_eq_true_eq]
    intro e
    exact m (List.mem_map.mpr ⟨a, ha, Sum.inr.inj e⟩)
theorem keys_map {α : Type} (l : List α) (f : α → Str) (g : α → V) : (l.map fun a => ((Sum.inr (f a) : Key), g a)).map (·.1) = (l.map f).map Sum.inr := by
  rw [List.map_map, List.map_map]
  rfl
theorem inV_strs {z : Str} {l : List Str} : inV (.str z) (l.map V.str) = decide (z ∈ l) := by
  unfold inV
  rw [List.any_map, Bool.eq_iff_iff, List.any_eq_true, decide_eq_true_eq]
  constructor
  · rintro ⟨x, hx, e⟩
    have : x = z := by simpa [eqV] using e
    exact this ▸ hx
  · intro h
    exact ⟨z, h, by simp [eqV]⟩
theorem flat_map (l : List Str) : (l.map V.str).all flatV = true := by
  rw [List.all_map]
  exact List.all_eq_true.mpr fun _ _ => rfl
end NW
namespace NW
open PySem PySem.Spec PyProof.Rows L2
/-! ### the same rules within a comprehension's block -/
section
variable {X : Cx} (K : PySem.W.Frag)
theorem op_notIn_seqK (h : X.K = K := by rfl) : OpR X (compareOp .NotIn) (rIn K true) := h ▸ op_notIn_seq
theorem op_in_seqK (h : X.K = K := by rfl) : OpR X (compareOp .In) (rIn K false) := h ▸ op_in_seq
theorem ix_listK (h : X.K = K := by rfl) : IxR X (rIxL K) := h ▸ ix_list
theorem ix_tupK (h : X.K = K := by rfl) : IxR X (rIxT K) := h ▸ ix_tup
theorem op_eqDK (hu : X.A.units + 64 < cLine) (h : X.K = K := by rfl) : OpR X (compareOp .Eq) (rEqD K) := h ▸ op_eqD hu
end
end NW
namespace NW
open PySem PySem.Spec PyProof.Rows L2
open TL (tl)
theorem IsName.tx {z : Str} (h : IsName z) : PyData.strOk z = true := by
  unfold PyData.strOk
  rw [Array.all_eq_true']
  intro c hc
  have := h.low c (Array.mem_toList_iff.mpr hc)
  exact decide_eq_true (by omega)
end NW
namespace NW
open PySem PySem.Spec PyProof.Rows L2
open TL (tl)
/-- the constants of the modules -/
structure Cst (K : PySem.W.Frag) (mg : Str → Option Value) : Prop where
  LETTERS : ∃ t, mg "LETTERS" = some (.str LET t)
  LONGEST : ∃ t, mg "LONGEST" = some (.int 8 t)
  LEAVES : ∃ a, mg "LEAVES" = some (.ref a) ∧ ∀ H, SqT K H a [.str "number", .str "text"]
  WRAPPERS : ∃ a, mg "WRAPPERS" = some (.ref a) ∧ ∀ H, SqT K H a [.str "list", .str "sure"]
  MOST_KINDS : ∃ t, mg "MOST_KINDS" = some (.int 6 t)
  MOST_FACES : ∃ t, mg "MOST_FACES" = some (.int 3 t)
  MOST_UNIONS : ∃ t, mg "MOST_UNIONS" = some (.int 3 t)
  MOST_KIND_FIELDS : ∃ t, mg "MOST_KIND_FIELDS" = some (.int 5 t)
  MOST_FACE_FIELDS : ∃ t, mg "MOST_FACE_FIELDS" = some (.int 4 t)
  MOST_UNION_KINDS : ∃ t, mg "MOST_UNION_KINDS" = some (.int 4 t)
abbrev s_is_name : Stmt := topS 10
abbrev N_is_name : List Str := ["word", "letter"]
theorem sc_is_name : FnScope N_is_name ["word"] (defScope s_is_name) := ⟨rfl, rfl, rfl, by decide +kernel, rfl, by decide +kernel, by decide +kernel⟩
abbrev s_is_key : Stmt := topS 11
abbrev N_is_key : List Str := ["name", "table"]
theorem sc_is_key : FnScope N_is_key ["name", "table"] (defScope s_is_key) := ⟨rfl, rfl, rfl, by decide +kernel, rfl, by decide +kernel, by decide +kernel⟩
section
variable {P : Program} {w : World} {K : PySem.W.Frag} {mg : Str → Option Value} {base : Heap}
def spIsName : Sp := fun vs H Q _ => ∃ z : Str, vs = [.str z] ∧ IsName z ∧ ∀ H', Same H H' → Q (.bl true) H'
theorem same_new {H : Hp} {p : Addr} {o : HO} (h : H p = none) : Same H (upd H p o) := fun b x e => by
  rw [upd_ne (ne_of_none e h)]
  exact e
theorem same_upd {H H1 : Hp} {p : Addr} {o : HO} (x : Same H H1) (h : H p = none) : Same H (upd H1 p o) := fun b u e => by
  rw [upd_ne (ne_of_none e h)]
  exact x b u e
theorem all_true (n : Nat) : (List.replicate n true).all id = true := by
  rw [List.all_replicate]
  cases n <;> simp
theorem rep_succ {n : Nat} : (List.replicate n true).map V.bl ++ [V.bl true] = (List.replicate (n + 1) true).map V.bl := by
  rw [List.replicate_succ', List.map_append]
  rfl
theorem ok_is_name {f : Addr} {fd : FuncData} (D : Df K mg "is_name" s_is_name f fd ["word"]) (T : Nms mg) (C : Cst K mg) : FnOk P w K mg base CX0 1 f fd ["word"] spIsName := by
  obtain ⟨t1, g_LETTERS⟩ := C.LETTERS
  obtain ⟨t2, g_LONGEST⟩ := C.LONGEST
  refine D.F.ok sc_is_name (fun vs H Q E h => ?_) (fun cdv A outer s H vs Q E hr h => ?_)
  · obtain ⟨z, rfl, _⟩ := h
    rfl
  · obtain ⟨z, rfl, hz, q⟩ := h
    refine ⟨_, (pss_one (ps_ret (pe_and (pe_callB call_isi (by rfl) T.n_isinstance (by decide +kernel) (pa_cons (pv 0) (pa_cons (pe_bltn (v := .ty "str") (by rfl) T.n_str (by decide +kernel) rfl) pa_nil))) (pe_and (pe_chain op_le op_le pe_int (pe_callB call_len_str (by rfl) T.n_len PySem.boot_len (pa_cons (pv 0) pa_nil)) (pe_glob (v := .int 8) (by rfl) g_LONGEST ⟨_, rfl⟩)) (pe_one (pe_callB (cr_all rfl) (by rfl) T.n_all (by decide +kernel) (pa_cons (pe_lc (own := [("letter", 1)]) (g := (gName 1)) (tt := tYes) rfl sc_is_name.nd (pi_str (pv 0)) (blkOk_by (own := [("letter", 1)]) (N := N_is_name) (sc := defScope s_is_name) (by decide +kernel)) (fun _ _ _ _ _ => (pg_name (i := 1) sc_is_name.nd rfl (.inl rfl))) (fun _ _ _ _ _ => pts_nil) (fun _ _ _ _ _ => (pe_cmpR op_in_sign (pv 1) (pe_glob (v := .str LET) (by rfl) g_LETTERS ⟨_, rfl⟩) (by rfl)))) pa_nil))))))), ?_⟩
    refine ⟨.str z, rfl, _, _, _, _, true, rfl, .ty "str", .base (.str z), kit_ty (by decide +kernel), true, rfl, iteT ?_⟩
    have hs : z.length ≤ sizeLine := Nat.le_trans hz.len8 (by decide)
    have l1 : decide ((1 : Int) ≤ (z.length : Int)) = true := decide_eq_true (by have := hz.len1; omega)
    have l2 : decide ((z.length : Int) ≤ 8) = true := decide_eq_true (by have := hz.len8; omega)
    refine ⟨.str z, rfl, z, rfl, hs, _, _, rfl, rfl, true, blT (by have := hz.len1; omega), iteT ⟨_, _, rfl, rfl, true, blT (by have := hz.len8; omega), iteT ⟨.str z, rfl, z, rfl, fun Da nD => ?_⟩⟩⟩
    refine lc_it walk_str (fun i H' => H' = upd H Da (.lst ((List.replicate i true).map V.bl))) rfl (fun _ _ _ _ => trivial) ?_ ?_
    · rintro i x H3 H4 hi rfl ⟨rfl, c, hc, rfl⟩
      have hcm : c ∈ tl z := List.mem_of_getElem? (by rw [Array.getElem?_toList]; exact hc)
      have hl := hz.low c hcm
      have hm : c ∈ LET.cps.toList := by
        have e := let_at (k := c - 97) (by omega)
        rw [show 97 + (c - 97) = c by omega] at e
        exact List.mem_of_getElem? e
      refine ⟨rfl, lcT ⟨_, rfl, c, LET, rfl, rfl, _, upd_same, ?_, ?_⟩⟩
      · rw [List.length_map, List.length_replicate]
        have h1 := hz.len8
        exact Nat.lt_of_le_of_lt (show i ≤ 1000 by have : z.length = z.cps.size := rfl; omega) (by decide)
      · rw [upd_upd, decide_eq_true hm, rep_succ]
    · rintro H3 rfl
      refine ⟨Da, _, rfl, SqL.of upd_same, ?_⟩
      rw [all_true]
      exact q _ (same_new nD)
def spIsKey (K : PySem.W.Frag) : Sp := fun vs H Q _ => ∃ (x : V) (a : Addr), vs = [x, .ref a] ∧ ((∃ z : Str, x = .str z ∧ ((∃ l : List Str, (SqL K H a (l.map V.str) ∨ SqT K H a (l.map V.str)) ∧ Q (.bl (decide (z ∈ l))) H) ∨ (∃ kvs, Rd H a (.dK kvs) ∧ Q (.bl (valV kvs (Sum.inr z)).isSome) H))) ∨
  (∃ t, TyX K H x t ∧ PySem.W.kitOne K t (.type "str") = some false ∧ Q (.bl false) H))
theorem ok_is_key {f : Addr} {fd : FuncData} (D : Df K mg "is_key" s_is_key f fd ["name", "table"]) (T : Nms mg) : FnOk P w K mg base CX0 1 f fd ["name", "table"] (spIsKey K) := by
  refine D.F.ok sc_is_key (fun vs H Q E h => ?_) (fun cdv A outer s H vs Q E hr h => ?_)
  · obtain ⟨z, a, rfl, _⟩ := h
    rfl
  · obtain ⟨x, a, rfl, h⟩ := h
    have hu := hu_of hr
    refine ⟨_, (pss_one (ps_ret (pe_and (pe_callB call_isi (by rfl) T.n_isinstance (by decide +kernel) (pa_cons (pv 0) (pa_cons (pe_bltn (v := .ty "str") (by rfl) T.n_str (by decide +kernel) rfl) pa_nil))) (pe_one (pe_cmpR (op_in_any hu) (pv 0) (pv 1) (by rfl)))))), ?_⟩
    rcases h with ⟨z, rfl, h⟩ | ⟨t, ht, hk, q⟩
    · refine ⟨.str z, rfl, _, _, _, _, true, rfl, .ty "str", .base (.str z), kit_ty (by decide +kernel), true, rfl, iteT ?_⟩
      rcases h with ⟨l, hl, q⟩ | ⟨kvs, hk, q⟩
      · refine ⟨.str z, rfl, .ref a, rfl, .inl ⟨a, _, rfl, hl, rfl, flat_map l, ?_⟩⟩
        rw [inV_strs]
        exact q
      · exact ⟨.str z, rfl, .ref a, rfl, .inr ⟨a, _, rfl, .inl ⟨kvs, .inr z, hk, rfl, rfl⟩, q⟩⟩
    · exact ⟨x, rfl, _, _, _, _, false, rfl, .ty "str", ht, hk, false, rfl, iteF q⟩
end
end NW
namespace NW
open PySem PySem.Spec PyProof.Rows L2
theorem same_unlock {H H' : Hp} {d : Addr} {u : HO} {od : Obj} (e : H d = some u) (x : Same (upd H d (.frz od u)) H') : Same H (upd H' d u) := fun b o h => by
  by_cases n : b = d
  · subst n
    rw [e] at h
    cases h
    exact upd_same
  · rw [upd_ne n]
    exact x b o (by rw [upd_ne n]; exact h)
/-- all of a comprehension's items are True, and nothing that stood changes -/
theorem lc_all {J : It} {n j : Nat} {G : Hp → Prop} {Y : Nat → Hp → V → Hp → Prop} (w : Walk J n G Y) {te : TE} {vs : List Nat} {σ : L2.St} {H1 : Hp} {Da : Addr} {Qd : Hp → Prop} (Itm : Nat → V → Prop)
    (hY : ∀ i H x H', i < n → Y i H x H' → H' = H ∧ Itm i x) (hG : ∀ H, Same H1 H → G H) (nD : H1 Da = none) (hn : n ≤ 1000) (hw : ∀ x, wipe ((wipe σ vs).set j (some x)) vs = wipe σ vs)
    (hs : ∀ i x H (Q : VK), i < n → Itm i x → Same H1 H → (∀ H4, Same H H4 → Q (.bl true) H4) → te ((wipe σ vs).set j (some x)) H Q)
    (hd : ∀ H, Same H1 H → H Da = some (.lst ((List.replicate n true).map V.bl)) → Qd H) :
    ∃ W : Nat → Nat → Hp → Prop, (∃ m, W 0 m (upd H1 Da (.lst []))) ∧ ∀ i m H, W i m H →
      (J.stop i H ∧ Qd H) ∨ (J.go i H ∧ ∃ Nx : Hp → Prop, (∀ H', Nx H' → ∃ m', m' < m ∧ W (i + 1) m' H') ∧ ∀ x H', J.yld i H x H' → gName j x (wipe σ vs) H' fun σ2 H2 => wipe σ2 vs = wipe σ vs ∧ tYes σ2 H2 fun b H3 =>
        if b = true then te σ2 H3 fun y H4 => ∃ acc, H4 Da = some (.lst acc) ∧ acc.length < sizeLine ∧ Nx (upd H4 Da (.lst (acc ++ [y]))) else Nx H3) := by
  refine lc_it w (fun i H' => Same H1 H' ∧ H' Da = some (.lst ((List.replicate i true).map V.bl))) ⟨same_new nD, upd_same⟩ (fun i H _ p => hG H p.1) ?_ (fun H p => hd H p.1 p.2)
  rintro i x H H' hi ⟨sm, e⟩ y
  obtain ⟨rfl, it⟩ := hY i H x H' hi y
  refine ⟨hw x, lcT (hs i x _ _ hi it sm fun H4 s4 => ⟨_, s4 _ _ e, ?_, same_upd (sm.trans s4) nD, ?_⟩)⟩
  · rw [List.length_map, List.length_replicate]
    exact Nat.lt_of_le_of_lt (show i ≤ 1000 by omega) (by decide)
  · rw [upd_same, rep_succ]
end NW
namespace NW
open PySem PySem.Spec PyProof.Rows L2
section
variable {X : Cx}
/-- sorted of a tuple of texts -/
def rSortedTup (K : PySem.W.Frag) : List V → Hp → VK → Prop := fun xs H Q => ∃ (a : Addr) (ks : List Str), xs = [.ref a] ∧ SqT K H a (ks.map V.str) ∧ ks.length < 64 ∧
  ∀ ys p, ys.Perm ks → sortedS ys = true → H p = none → Q (.ref p) (upd H p (.lst (ys.map V.str)))
theorem strs_vals : ∀ {ks : List Str} {us : List Value}, Vals (ks.map V.str) us → StrsAre us ks
  | [], _, .nil => .nil
  | k :: ks, _, .cons ⟨t, e⟩ r => by
    subst e
    exact .cons k t (strs_vals r)
theorem call_sortedTup (K : PySem.W.Frag) (hK : X.K = K := by rfl) : CallR X (.builtin "sorted") (rSortedTup K) := by
  subst hK
  intro pins s σ H xs us Q I r q
  obtain ⟨a, ks, rfl, ha, few, q⟩ := q
  rw [Vals.ref1 r]
  obtain ⟨its, rv, pl, big⟩ := I.tuple ha
  obtain ⟨o, ho, hc, n, hd⟩ := pl
  have hlen : its.length = ks.length := by
    have e := rv.length
    rw [List.length_map] at e
    exact e.symm
  have hS : StrsAre its ks := strs_vals rv
  refine Calls.call_function_entry PyProof.Rows.kind_sorted PyProof.Rows.plain_sorted PyProof.Rows.entry_sorted (PyProof.Rows.args_sorted1 _) ?_
  unfold Builtin.«sorted»
  refine wpAny_bind (m := checkCount "sorted" 1 1 _) (wpAny_pure ?_)
  have room : its.toArray.size ≤ sizeLine := by rw [List.size_toArray, hlen, sizeLine_eq]; omega
  refine wpAny_bind (wpAny_collect_seq a (.inr rfl) ho hc hd (fun g kept => ?_) room)
  have el : its.toArray.toList = its := by simp
  rw [el]
  have J : Inv X pins σ H { s with heap := g } := I.kept (t' := s.toks) kept
  refine wpAny_bind (wpAny_newList ?_ (by rw [hlen, sizeLine_eq]; omega))
  have at_ : (g.push (seqObj "list" its.toArray 0)).get? g.objs.size = some (seqObj "list" its.toArray 0) := Heap.get?_push_size _ rfl
  show wpAny _ _ _ _ _ { s with heap := g.push (seqObj "list" its.toArray 0) }
  refine wpAny_bind (wpAny_holding (wpAny_call_entry PyProof.Rows.slot_list_sort ⟨_, at_, rfl⟩ PyProof.Rows.entry_list_sort (list_sort_treeK strKind_oneLt (s := { s with heap := g.push (seqObj "list" its.toArray 0) }) at_ hS.keysOf
    (fun v₁ v₂ rest e => keyKind_strs (by rw [← e]; exact hS)) (by rw [hlen]; exact few) fun st' hp hs => ⟨_, rfl, ?_⟩) (PyProof.Rows.args_list_sort _)))
  obtain ⟨ys, z1, z2, z3⟩ := sorted_out_str hS hp hs
  obtain ⟨e', he'⟩ := PyProof.Rows.sortedHeap_at (vs := its) (out := (arrOf st').map (·.2)) at_
  have fits : (ys.map V.str).length ≤ sizeLine := by
    rw [List.length_map, z2.length_eq, sizeLine_eq]
    omega
  refine wpAny_pure ⟨_, rfl, .ref g.objs.size, upd H g.objs.size (.lst (ys.map V.str)), J.laid (t' := s.toks) (fun b u e => ?_) (Nat.le_refl _) (show ObjOk X.prog X.w _ _ _ (.lst (ys.map V.str)) from ⟨fits, ((arrOf st').map (·.2)).toList, e', vals_of_strs z1, by rw [Array.toArray_toList]; exact he'⟩), rfl, q ys _ z2 z3 (J.hok.fresh (Nat.le_refl _))⟩
  have below : b < g.objs.size := Heap.lt_size e
  rw [PyProof.Rows.sortedHeap_old (Nat.ne_of_lt below) (by rw [size_push']; exact Nat.lt_succ_of_lt below)]
  exact Heap.get?_push_of_some _ e
/-- within a block -/
theorem cr_sortedSK (K : PySem.W.Frag) (h : X.K = K := by rfl) : CallR X (.builtin "sorted") (rSortedS K) := h ▸ cr_sortedS
theorem call_tuple_ofK (K : PySem.W.Frag) (h : X.K = K := by rfl) : CallR X (.type "tuple") (fun vs H Q => ∃ (p : Addr) (xs : List V), vs = [.ref p] ∧ ((SqL K H p xs ∧ ∀ l, H l = none → Q (.ref l) (upd H l (.tup xs))) ∨ (SqT K H p xs ∧ Q (.ref p) H))) := by
  subst h
  intro pins s σ H vs us Q I r q
  exact call_tuple_of pins s σ H vs us Q I r q
end
/-- a dict comprehension over anything that is walked: Pv by the turn and the heap -/
theorem dc_it {J : It} {n : Nat} {G : Hp → Prop} {Y : Nat → Hp → V → Hp → Prop} (w : Walk J n G Y) {g : TG} {tt : TT} {tk tv : TE} {vs : List Nat} {σ : L2.St} {H1 : Hp} {Da : Addr} {Qd : Hp → Prop} (Pv : Nat → Hp → Prop)
    (start : Pv 0 (upd H1 Da (.dK []))) (hG : ∀ i H, i ≤ n → Pv i H → G H)
    (turn : ∀ i x H H', i < n → Pv i H → Y i H x H' → g x (wipe σ vs) H' fun σ2 H2 => wipe σ2 vs = wipe σ vs ∧ tt σ2 H2 fun b H3 =>
      if b = true then tk σ2 H3 fun y H4 => tv σ2 H4 fun z H5 => ∃ kvs k, y = kV k ∧ H5 Da = some (.dK kvs) ∧ kvs.length < sizeLine ∧ Pv (i + 1) (upd H5 Da (.dK (putK kvs k z))) else Pv (i + 1) H3) (fin : ∀ H, Pv n H → Qd H) :
    ∃ W : Nat → Nat → Hp → Prop, (∃ m, W 0 m (upd H1 Da (.dK []))) ∧ ∀ i m H, W i m H →
      (J.stop i H ∧ Qd H) ∨ (J.go i H ∧ ∃ Nx : Hp → Prop, (∀ H', Nx H' → ∃ m', m' < m ∧ W (i + 1) m' H') ∧ ∀ x H', J.yld i H x H' → g x (wipe σ vs) H' fun σ2 H2 => wipe σ2 vs = wipe σ vs ∧ tt σ2 H2 fun b H3 =>
        if b = true then tk σ2 H3 fun y H4 => tv σ2 H4 fun z H5 => ∃ kvs k, y = kV k ∧ H5 Da = some (.dK kvs) ∧ kvs.length < sizeLine ∧ Nx (upd H5 Da (.dK (putK kvs k z))) else Nx H3) := by
  refine ⟨fun i m H => i + m = n ∧ Pv i H, ⟨n, Nat.zero_add n, start⟩, fun i m H h => ?_⟩
  obtain ⟨e, p⟩ := h
  have q := hG i H (by omega) p
  cases m with
  | zero =>
    have e2 : i = n := by omega
    subst e2
    exact .inl ⟨w.stops H q, fin H p⟩
  | succ m => exact .inr ⟨w.goes i H (by omega) q, Pv (i + 1), fun H' p' => ⟨m, Nat.lt_succ_self m, by omega, p'⟩, fun x H' y => turn i x H H' (by omega) p (w.yields i H x H' (by omega) q y)⟩
end NW
namespace NW
open PySem PySem.Spec PyProof.Rows L2
/-- the else of an if, once for all ways to it -/
theorem cutE {c : TT} {t u : TS} {D : Ends} {σ : L2.St} {H : Hp} (G : L2.St → Hp → Prop) (he : ∀ σ' H', G σ' H' → u D σ' H') (h : (∀ σ' H', G σ' H' → u D σ' H') → tIfS c t u D σ H) : tIfS c t u D σ H := h he
end NW
namespace NW
open PySem PySem.Spec PyProof.Rows L2
section
variable {X : Cx}
/-- a dict against an empty one -/
theorem op_eq_dict0 (hu : X.A.units < cLine) : OpR X (compareOp .Eq) (fun x y H Q => ∃ (a b : Addr) (kvs : List (Key × V)), x = .ref a ∧ y = .ref b ∧ H a = some (.dK kvs) ∧ H b = some (.dK []) ∧ Q (.bl (kvs.length == 0)) H) := by
  intro pins s σ H x y v u Q I rx ry h
  obtain ⟨a, b, kvs, rfl, rfl, ea, eb, q⟩ := h
  cases rx
  cases ry
  have oa : ObjOk X.prog X.w H s.heap a (.dK kvs) := I.hok a _ ea
  have ob : ObjOk X.prog X.w H s.heap b (.dK []) := I.hok b _ eb
  obtain ⟨_, na, ua, pa, da⟩ := oa
  obtain ⟨_, nb, ub, pb, db⟩ := ob
  have la := pa.length
  have lb := pb.length
  refine PySem.W.keq_eq (knd := mixKind X.prog X.w) (r := true) na nb da db hu (fun e => hits_all pb pa fun p hp => ?_) (fin_bl I q ?_)
  · have : kvs.length = 0 := by
      rw [la, e, ← lb]
      rfl
    rw [List.length_eq_zero_iff.mp this] at hp
    cases hp
  · rw [← la, ← lb]
    simp
end
/-- fewer different things than there are in a list that holds them all -/
theorem len_le_of_sub {α : Type} [DecidableEq α] : ∀ {l m : List α}, l.Nodup → (∀ x ∈ l, x ∈ m) → l.length ≤ m.length
  | [], _, _, _ => Nat.zero_le _
  | a :: r, m, nd, h => by
    have hn := List.nodup_cons.mp nd
    have ha : a ∈ m := h a List.mem_cons_self
    have ih := len_le_of_sub (l := r) (m := m.erase a) hn.2 fun x hx => (List.mem_erase_of_ne (fun e => hn.1 (by rw [← e]; exact hx))).mpr (h x (List.mem_cons_of_mem _ hx))
    rw [List.length_erase_of_mem ha] at ih
    have := List.length_pos_of_mem ha
    rw [List.length_cons]
    omega
/-! ### one field more, or one given anew -/
def putFl (fs : List Fld) (f : Fld) : List Fld := if f.1 ∈ fs.map (·.1) then fs.map (fun x => if x.1 = f.1 then f else x) else fs ++ [f]
theorem putFl_kv (fs : List Fld) (f : Fld) : putK (fkv fs) (Sum.inr f.1) f.2.1 = fkv (putFl fs f) := by
  unfold putFl
  by_cases h : f.1 ∈ fs.map (·.1)
  · rw [if_pos h]
    unfold putK
    have e : ((fkv fs).any fun kv => decide (kv.1 = (Sum.inr f.1 : Key))) = true := by
      obtain ⟨x, hx, ex⟩ := List.mem_map.mp h
      exact List.any_eq_true.mpr ⟨_, List.mem_map.mpr ⟨x, hx, rfl⟩, decide_eq_true (congrArg Sum.inr ex)⟩
    rw [if_pos e]
    unfold fkv
    rw [List.map_map, List.map_map]
    refine List.map_congr_left fun x _ => ?_
    show (if (Sum.inr x.1 : Key) = Sum.inr f.1 then ((Sum.inr x.1 : Key), f.2.1) else ((Sum.inr x.1 : Key), x.2.1)) = _
    by_cases e2 : x.1 = f.1
    · rw [if_pos (congrArg Sum.inr e2)]
      show _ = ((Sum.inr (if x.1 = f.1 then f else x).1 : Key), (if x.1 = f.1 then f else x).2.1)
      rw [if_pos e2, e2]
    · rw [if_neg fun z => e2 (Sum.inr.inj z)]
      show _ = ((Sum.inr (if x.1 = f.1 then f else x).1 : Key), (if x.1 = f.1 then f else x).2.1)
      rw [if_neg e2]
  · rw [if_neg h]
    exact put_snoc0 h
where
  put_snoc0 {fs : List Fld} {f : Fld} (h : f.1 ∉ fs.map (·.1)) : putK (fkv fs) (Sum.inr f.1) f.2.1 = fkv (fs ++ [f]) := by
    unfold fkv
    rw [putK_new _ (valV_out (f := fun f : Fld => f.1) (g := fun f => f.2.1) h), List.map_append]
    rfl
theorem putFl_keys (fs : List Fld) (f : Fld) : (putFl fs f).map (·.1) = if f.1 ∈ fs.map (·.1) then fs.map (·.1) else fs.map (·.1) ++ [f.1] := by
  unfold putFl
  by_cases h : f.1 ∈ fs.map (·.1)
  · rw [if_pos h, if_pos h, List.map_map]
    refine List.map_congr_left fun x _ => ?_
    show (if x.1 = f.1 then f else x).1 = x.1
    split
    · rename_i e
      exact e.symm
    · rfl
  · rw [if_neg h, if_neg h, List.map_append]
    rfl
theorem putFl_nd {fs : List Fld} {f : Fld} (h : (fs.map (·.1)).Nodup) : ((putFl fs f).map (·.1)).Nodup := by
  rw [putFl_keys]
  split
  · exact h
  · rename_i n
    rw [List.nodup_append]
    exact ⟨h, by simp, fun a ha b hb e => n (by rw [List.mem_singleton.mp hb] at e; rw [← e]; exact ha)⟩
theorem putFl_mem {fs : List Fld} {f x : Fld} (h : x ∈ putFl fs f) : x = f ∨ (x ∈ fs ∧ x.1 ≠ f.1) := by
  unfold putFl at h
  split at h
  · obtain ⟨y, hy, e⟩ := List.mem_map.mp h
    split at e
    · exact .inl e.symm
    · rename_i n
      subst e
      exact .inr ⟨hy, n⟩
  · rename_i n
    rcases List.mem_append.mp h with h | h
    · exact .inr ⟨h, fun e => n (by rw [← e]; exact List.mem_map.mpr ⟨x, h, rfl⟩)⟩
    · exact .inl (List.mem_singleton.mp h)
theorem putFl_has (fs : List Fld) (f : Fld) : f ∈ putFl fs f := by
  unfold putFl
  split
  · rename_i h
    obtain ⟨x, hx, ex⟩ := List.mem_map.mp h
    exact List.mem_map.mpr ⟨x, hx, if_pos ex⟩
  · exact List.mem_append_right _ (List.mem_singleton.mpr rfl)
theorem putFl_old {fs : List Fld} {f x : Fld} (h : x ∈ fs) (n : x.1 ≠ f.1) : x ∈ putFl fs f := by
  unfold putFl
  split
  · exact List.mem_map.mpr ⟨x, h, if_neg n⟩
  · exact List.mem_append_left _ h
theorem putFl_len {fs : List Fld} {f : Fld} : (putFl fs f).length ≤ fs.length + 1 := by
  unfold putFl
  split
  · rw [List.length_map]; omega
  · rw [List.length_append]; exact Nat.le_refl _
end NW
namespace NW
open PySem PySem.Spec PyProof.Rows L2
/-! ### a method that may raise -/
section
variable {X : Cx} {CX : CXT} {k : Nat} {C f : Addr} {m : Str} {fd : FuncData} {ps : List Str} {sp : Sp} {E : L2.St → XK} {o e : Expr} {es : List Expr} {ta : TE} {t : TA} {apos pos : Pos} {pl : Sem Bool}
def tMethX (C : Addr) (m : Str) (sp : Sp) (E : L2.St → XK) (ta : TE) (t : TA) : TE := fun σ H Q => ta σ H fun x H1 => ∃ a dx fs, x = .ref a ∧ H1 a = some (.ins C dx fs) ∧ fs.lookup m = none ∧ t σ H1 fun vs H2 => sp (.ref a :: vs) H2 Q (E σ)
theorem pe_methX (he : PE X o ta) (c : Cls X.K C) (hm : Meth X.K C m f) (F : FnOk X.prog X.w X.K X.mg X.base CX k f fd ps sp) (hr : Room k X.A) (hb : Binds X.K fd ps []) (hx : ∀ σ, PassesAt CX X σ (E σ)) (ha : PA X (e :: es) t)
    (hst : starEach (e :: es) X.env = (false, eval e X.env) :: starEach es X.env := by rfl) (hpl : (backTo pos (starEach es X.env)).any (·.1) = false := by rfl)
    (ht : eval (.Call (.Attribute o m apos) (e :: es) [] pos) X.env = (do
      let held ← eval o X.env
      standAt apos.atName
      let (f, first) ← holding [held] (getMethod held m pl)
      callWith pos f first (backTo pos (starEach (e :: es) X.env)) (backToKw pos (keywordEach [] X.env))) := by rfl) :
    PE X (.Call (.Attribute o m apos) (e :: es) [] pos) (tMethX C m sp E ta t) := by
  refine ⟨fun pins s σ H Q I h => ?_⟩
  refine PySem.W.methodCall_KW (pl := pl) (thn (he.run pins s σ H _ I h) fun u s1 ⟨x, H1, I1, rx, a, dx, fs, ex, ea, l, q⟩ => ?_) ht
  subst ex
  cases rx
  refine getmeth_ok I1 ea c hm l ?_
  refine PySem.W.callWith_K (first := [.ref a]) (h₀ := X.base) I.ok.mod.kin hm.kp (thn (ha.run pos pins s1 σ H1 _ I1 q) fun us s2 ⟨vs, H2, I2, r, q2⟩ => ⟨I2.kIn, ?_⟩) hst hpl
  exact run_fnS (us := .ref a :: us) (vs := .ref a :: vs) F hr hb (hx σ) I2 (.cons rfl r) q2
end
/-- nothing is let out where nothing is promised of it -/
theorem passX0 {P : Program} {w : World} {X : Cx} : Passes (L2.CX P w) X E0 := fun _ _ _ _ _ _ _ h => by
  obtain ⟨_, _, _, _, _, _, _, _, _, _, _, _, z⟩ := h
  exact z.elim
/-! ### isinstance of a caught error that has fields -/
def rIsX (K : PySem.W.Frag) (C a : Addr) (cls : Value) (d : Option Addr) : List V → Hp → VK → Prop := fun xs H Q => ∃ (c : V) (cv : Value) (b : Bool) (dd : Addr) (fs : List (Str × V)), xs = [.ref a, c] ∧ cls = .ref C ∧ d = some dd ∧ H dd = some (.xd fs) ∧ (∀ u, RelV c u → u = cv) ∧
  PySem.W.kitOne K (.ref C) cv = some b ∧ Q (.bl b) H
theorem call_isX {X : Cx} {a C : Addr} {oe : Obj} {cls : Value} {d : Option Addr} {pn : List (Addr × Obj)} (T : ExcC X.K C) (hz : Zc cls d oe) (hf : ∃ vs, oe.data = .fields vs) : CallR (X.suite a ((a, oe) :: pn)) (.builtin "isinstance") (rIsX X.K C a cls d) := by
  intro pins s σ H xs us Q I r h
  obtain ⟨c, cv, b, dd, fs, rfl, rfl, rfl, hd, hcv, e, q⟩ := h
  cases r with
  | cons rx rr =>
    cases rr with
    | cons rt rr =>
      cases rr
      cases rx
      have ec := hcv _ rt
      subst ec
      obtain ⟨hget, _⟩ := I.pin (a, oe) (List.mem_append.mpr (.inl List.mem_cons_self))
      obtain ⟨vs, hv⟩ := hf
      have hx : ObjOk X.prog X.w H s.heap dd (.xd fs) := I.hok dd _ hd
      obtain ⟨mA, hns, hr⟩ := hx
      obtain ⟨od, ho, hl⟩ := lookIn_ns hns
      have J : PySem.W.InstAt s.heap a oe C (some od) := ⟨hget, hz.1, by unfold PySem.W.notCls; rw [hv] <;> rfl, by rw [hz.2]; exact ho⟩
      obtain ⟨cd, hcl, _⟩ := PySem.W.any_some T.hd
      exact PySem.W.kia_one (PySem.W.kitx_exc (by rw [hcl]; rfl) T.hg T.hk T.hs T.ha T.hn T.ht T.hm) I.kIn J e (fun z => nomatch z) fun tk => ⟨.bl b, H, I.kept (t' := tk) fun _ _ z => z, rfl, q⟩
end NW
namespace NW
open PySem PySem.Spec PyProof.Rows L2
section
variable {X : Cx} {CY : CXT} {cls : Str} {C fI : Addr} {n : Nat} {dat : FuncData} {pars : List Str} {prom : Sp} {a0 : Expr} {as : List Expr} {tas : TA} {np cp : Pos}
/-- C(e, ..) made for a raise, where no exception is handled; what is made has no context -/
theorem pmkN (T : OexC X.K C) (hI : PySem.W.findIn X.K (.ref C) "__init__" = some (some (.ref fI))) (hT : PySem.W.typeIn X.K (.ref fI) = some (.type "function")) (G : FnOk X.prog X.w X.K X.mg X.base CY n fI dat pars prom)
    (room : Room (n + 1) X.A) (bi : Binds X.K dat pars []) (ps0 : Passes CY X (fun _ _ _ => False)) (gl : L2.Gl X cls) (mgC : X.mg cls = some (.ref C)) (pas : PA X (a0 :: as) tas) (nd : (cls == ("__debug__" : Str)) = false := by decide)
    (st : starEach (a0 :: as) X.env = (false, eval a0 X.env) :: starEach as X.env := by rfl) (pl : (backTo cp (starEach as X.env)).any (·.1) = false := by rfl) : L2N.PMk X (.Call (.Name cls np) (a0 :: as) [] cp) (tMkO C prom [] tas) := by
  intro pins s σ H Q I reading
  obtain ⟨_, _, _, _, bm, _, _, _, _, _, _, _, _, _, _, hC, inB⟩ := T.cls
  refine wpAny_Call_Name_kw (ld_glob I gl mgC (PySem.W.callWith_K (h₀ := X.base) I.ok.mod.kin T.kC (thn (pas.run cp pins s σ H _ I reading) fun us s1 ⟨vs, H1, J1, rs, few, made⟩ => ⟨J1.kIn, ?_⟩) st pl) nd)
  show wpAny _ _ (call (.ref C) us) _ _ _
  obtain ⟨h1, gs, drw, tks, sys⟩ := s1
  -- where the new exception stands
  generalize hat : h1.objs.size + 1 = new at *
  have ge1 : h1.objs.size ≤ new := by omega
  have promised := made new (J1.hok.fresh ge1)
  rw [List.append_nil] at promised
  generalize hG2 : (h1.push (PySem.W.kdv_tup us)).push (PySem.HandSPX.excO C h1.objs.size) = h2 at *
  have kept : ∀ b o, h1.get? b = some o → h2.get? b = some o := fun b o e => by rw [← hG2]; exact Heap.get?_push_of_some _ (Heap.get?_push_of_some _ e)
  have there : h2.get? new = some (PySem.HandSPX.excO C h1.objs.size) := by
    rw [← hG2, ← hat]
    heap_get
  have J2 : Inv X pins σ (upd H1 new (exo new C none)) ⟨h2, gs, drw, tks, sys⟩ := J1.laid (t' := tks) kept ge1 (exo_ok there)
  have rs2 : Vals (V.ref new :: vs) (Value.ref new :: us) := .cons rfl rs
  have len2 : (Value.ref new :: us).length = pars.length := by rw [← rs2.length]; exact G.len _ _ _ _ promised
  have bnd := bi _ (Value.ref new :: us) J2.kIn (by rw [List.append_nil]; exact len2)
  rw [List.append_nil] at bnd
  have lus : us.length ≤ sizeLine := by rw [← rs.length, sizeLine_eq]; omega
  refine wpAny_call (PySem.HandSPX.call_own F.excBase_ValueError (fun Y => PySem.HandSPX.refsVE_contains Y bm inB) (J1.kIn _ _ hC) (PySem.W.looks_findIn J1.kIn hI) (fun self => PySem.W.bind_fn J1.kIn self hT) lus ?_)
  rw [hG2, hat]
  refine codeAny_mono (G.run _ X.stack _ _ ⟨Value.ref new :: us, []⟩ _ _ _ (fun _ _ _ => False) (room.make C us []) (J2.env0.make C us []) bnd rs2 promised) fun res s' done => ?_
  cases res with
  | error er => exact ps0 pins σ _ _ er s' J2 done
  | ok fl =>
    cases fl with
    | ret u =>
      obtain ⟨v, H2, os2, bare2, un2, hok2, rv, ev, d, fs, ea, ed, hd1, q2⟩ := done
      subst ev
      obtain ⟨h3, gs3, drw3, tks3, sys3⟩ := s'
      obtain ⟨t0, G3, J, kG, ge, hoe, na⟩ := mk_end0 (d2 := drw3) (t2 := tks3) J1 ge1 kept un2 hok2 os2 bare2 ea ed hd1
      exact ⟨rv, new, _, _, ⟨G3, gs3, drw3, tks3, sys3⟩, _, .ref C, some d, rfl, J, kG, ge, hoe, ⟨rfl, rfl, fun ws e => by cases e; rfl⟩, rfl, rfl, na, rfl, bare2, raises_own T.exC T.tyC, q2⟩
    | next => exact done.elim
    | brk => exact done.elim
    | cont => exact done.elim
end
section
variable {P : Program} {w : World} {K : PySem.W.Frag} {mg : Str → Option Value} {base : Heap} {CY : CXT} {nm qn : Str} {d0 : Stmt} {fa : Addr} {dat : FuncData} {NN pars : List Str} {n : Nat} {prom : Sp}
/-- a def of the text, whatever is said of what it lets out -/
theorem okC (G : Fun K nm qn d0 fa dat) (S : FnScope NN pars (defScope d0)) (ln : ∀ vs H Q E, prom vs H Q E → vs.length = pars.length)
    (go : ∀ cdv A outer s H vs Q E, Room n (A.deeper (envOfC qn (defScope d0) s.heap.objs.size fa cdv)) → prom vs H Q E → ∃ t, PSs (cxOf CY P w K mg base NN qn (defScope d0) fa cdv A outer s H E) (defBody d0) t ∧ t { nx := fun _ H' => Q .non H', rt := Q } (start NN vs) H) :
    FnOk P w K mg base CY (n + 1) fa dat pars prom := by
  obtain ⟨_, _, _, _, _, _, cdv, _, _, rfl, lk, ci⟩ := G.ex
  exact fn_of lk ci S ln (go cdv)
/-- a def of the text that is called while an exception is handled -/
theorem okH (G : Fun K nm qn d0 fa dat) (S : FnScope NN pars (defScope d0)) (ln : ∀ vs H Q E, prom vs H Q E → vs.length = pars.length)
    (go : ∀ cdv A outer s H vs Q E p, L2H.Hot1 A p → L2H.RoomH n (A.deeper (envOfC qn (defScope d0) s.heap.objs.size fa cdv)) → prom vs H Q E → ∃ t, PSs (L2H.cxH CY P w K mg base NN qn (defScope d0) fa cdv A outer s H E p) (defBody d0) t ∧ t { nx := fun _ H' => Q .non H', rt := Q } (start NN vs) H) :
    L2H.FnH P w K mg base CY (n + 1) fa dat pars prom := by
  obtain ⟨_, _, _, _, _, _, cdv, _, _, rfl, lk, ci⟩ := G.ex
  exact L2H.fn_ofH lk ci S ln (go cdv)
end
end NW
namespace NW
open PySem PySem.Spec PyProof.Rows L2
open TL (tl)
abbrev s_is_table : Stmt := topS 27
abbrev N_is_table : List Str := ["table", "least", "most", "taken", "name"]
theorem sc_is_table : FnScope N_is_table ["table", "least", "most", "taken"] (defScope s_is_table) := ⟨rfl, rfl, rfl, by decide +kernel, rfl, by decide +kernel, by decide +kernel⟩
abbrev s_is_choice : Stmt := topS 28
abbrev N_is_choice : List Str := ["names", "table", "name"]
theorem sc_is_choice : FnScope N_is_choice ["names", "table"] (defScope s_is_choice) := ⟨rfl, rfl, rfl, by decide +kernel, rfl, by decide +kernel, by decide +kernel⟩
section
variable {P : Program} {w : World} {K : PySem.W.Frag} {mg : Str → Option Value} {base : Heap}
def spIsTable (K : PySem.W.Frag) : Sp := fun vs H Q _ => ∃ (t tk : Addr) (kvs : List (Key × V)) (ns ts : List Str) (lo hi : Int), vs = [.ref t, .int lo, .int hi, .ref tk] ∧ H t = some (.dK kvs) ∧ kvs.map (·.1) = ns.map Sum.inr ∧
  (∀ z ∈ ns, IsName z ∧ z ∉ ts) ∧ lo ≤ ns.length ∧ ns.length ≤ hi ∧ ns.length ≤ 1000 ∧ (SqL K H tk (ts.map V.str) ∨ SqT K H tk (ts.map V.str)) ∧ ∀ H', Same H H' → Q (.bl true) H'
theorem sq_lock {H : Hp} {t tk : Addr} {kvs : List (Key × V)} {od : Obj} {xs : List V} (e : H t = some (.dK kvs)) (h : SqL K H tk xs ∨ SqT K H tk xs) : SqL K (upd H t (.frz od (.dK kvs))) tk xs ∨ SqT K (upd H t (.frz od (.dK kvs))) tk xs := by
  have one : ∀ {u : HO}, (u = .lst xs ∨ u = .tup xs) → Rd H tk u → Rd (upd H t (.frz od (.dK kvs))) tk u := by
    intro u hu h
    have n : tk ≠ t := by
      rintro rfl
      rcases h with h | ⟨o, h⟩
      · rw [e] at h
        rcases hu with rfl | rfl <;> cases h
      · rw [e] at h
        cases h
    rcases h with h | ⟨o, h⟩
    · exact .inl (by rw [upd_ne n]; exact h)
    · exact .inr ⟨o, by rw [upd_ne n]; exact h⟩
  rcases h with (h | h) | (h | h)
  · exact .inl (.inl (one (.inl rfl) h))
  · exact .inl (.inr h)
  · exact .inr (.inl (one (.inr rfl) h))
  · exact .inr (.inr h)
theorem sq_same {H H' : Hp} {tk : Addr} {xs : List V} (x : Same H H') (h : SqL K H tk xs ∨ SqT K H tk xs) : SqL K H' tk xs ∨ SqT K H' tk xs := by
  rcases h with h | h
  · exact .inl (x.seq h)
  · rcases h with (h | ⟨o, h⟩) | h
    · exact .inr (.inl (.inl (x _ _ h)))
    · exact .inr (.inl (.inr ⟨o, x _ _ h⟩))
    · exact .inr (.inr h)
theorem ok_is_table {f f1 : Addr} {fd fd1 : FuncData} (D : Df K mg "is_table" s_is_table f fd ["table", "least", "most", "taken"]) (D_is_name : Df K mg "is_name" s_is_name f1 fd1 ["word"]) (T : Nms mg) (C : Cst K mg) : FnOk P w K mg base CX0 2 f fd ["table", "least", "most", "taken"] (spIsTable K) := by
  have G_is_name : FnOk P w K mg base CX0 1 f1 fd1 ["word"] spIsName := ok_is_name D_is_name T C
  refine D.F.ok sc_is_table (fun vs H Q E h => ?_) (fun cdv A outer s H vs Q E hr h => ?_)
  · obtain ⟨t, tk, kvs, ns, ts, lo, hi, rfl, _⟩ := h
    rfl
  · obtain ⟨t, tk, kvs, ns, ts, lo, hi, rfl, ht, hk, hz, h0, h1, h3, htk, q⟩ := h
    have hl : kvs.length = ns.length := by
      have e := congrArg List.length hk
      rw [List.length_map, List.length_map] at e
      exact e
    refine ⟨_, (pss_cons (ps_if (PW.pt (pw_or (pt_not (pt_val (pe_callB call_isi (by rfl) T.n_isinstance (by decide +kernel) (pa_cons (pv 0) (pa_cons (pe_bltn (v := .ty "dict") (by rfl) T.n_dict (by decide +kernel) rfl) pa_nil))))) (pw_or1 (pt_not (pt_chain op_le op_le (pv 1) (pe_callB call_lenD (by rfl) T.n_len (by decide +kernel) (pa_cons (pv 0) pa_nil)) (pv 2))))))
       (pss_one (ps_ret pe_bl))
       pss_nil)
      (pss_one (ps_ret (pe_callB (cr_all rfl) (by rfl) T.n_all (by decide +kernel) (pa_cons (pe_lock (pe_lc (own := [("name", 4)]) (g := (gName 4)) (tt := tYes) rfl sc_is_table.nd (pi_keys (pv 0)) (blkOk_by (own := [("name", 4)]) (N := N_is_table) (sc := defScope s_is_table) (by decide +kernel)) (fun _ _ _ _ _ => (pg_name (i := 4) sc_is_table.nd rfl (.inl rfl))) (fun _ _ _ _ _ => pts_nil) (fun _ _ _ _ _ => (pe_and (pe_call G_is_name (hr.mono (by decide)) (by rfl) D_is_name.g D_is_name.F.kp D_is_name.b .nil pass0 (pa_cons (pv 4) pa_nil)) (pe_one (pe_cmpR (op_notIn_seqK K) (pv 4) (pv 3) (by rfl))))))) pa_nil))))), ?_⟩
    refine ⟨.ref t, rfl, _, _, _, _, true, rfl, .ty "dict", .base (.dK ht), kit_ty (by decide +kernel), true, rfl, iteF ?_⟩
    refine ⟨.int lo, rfl, .ref t, rfl, t, kvs, rfl, ht, _, _, rfl, rfl, true, blT (by omega), iteT ⟨.int hi, rfl, _, _, rfl, rfl, true, blT (by omega), iteF ?_⟩⟩
    refine ⟨t, .dK kvs, ht, trivial, fun od => ⟨.ref t, rfl, t, od, rfl, .inl ⟨kvs, upd_same, fun Da nD => ?_⟩⟩⟩
    refine lc_all walk_keys (fun i x => ∃ z, ns[i]? = some z ∧ x = .str z) ?_ (fun H sm => sm _ _ upd_same) nD (by omega) (fun _ => rfl) ?_ ?_
    · rintro i H x H' hi ⟨rfl, k, v, e, rfl⟩
      have e2 : (kvs.map (·.1))[i]? = some k := by rw [List.getElem?_map, e]; rfl
      rw [hk, List.getElem?_map] at e2
      cases e3 : ns[i]? with
      | none => rw [e3] at e2; cases e2
      | some z =>
        rw [e3] at e2
        cases e2
        exact ⟨rfl, z, rfl, rfl⟩
    · rintro i x H2 Q2 hi ⟨z, ez, rfl⟩ sm k
      have hz2 := hz z (List.mem_of_getElem? ez)
      refine ⟨.str z, rfl, z, rfl, hz2.1, fun H3 s3 => ⟨true, rfl, iteT ?_⟩⟩
      refine ⟨.str z, rfl, .ref tk, rfl, tk, _, rfl, sq_same s3 (sq_same sm (sq_lock ht htk)), rfl, flat_map ts, ?_⟩
      rw [inV_strs, decide_eq_false hz2.2]
      exact k _ s3
    · intro H2 sm e2
      refine ⟨sm _ _ upd_same, Da, List.replicate kvs.length true, rfl, SqL.of ?_, ?_⟩
      · rw [upd_ne (show Da ≠ t from fun z => by rw [z, upd_same] at nD; cases nD)]
        exact e2
      · rw [all_true]
        exact q _ (same_unlock ht sm)
def spIsChoice (K : PySem.W.Frag) : Sp := fun vs H Q _ => ∃ (a t : Addr) (kvs : List (Key × V)) (zs : List Str), vs = [.ref a, .ref t] ∧ H a = some (.tup (zs.map V.str)) ∧ H t = some (.dK kvs) ∧
  zs.Nodup ∧ zs.length ≤ 1000 ∧ (∀ z ∈ zs, (valV kvs (Sum.inr z)).isSome = true) ∧ ∀ H', Same H H' → Q (.bl true) H'
theorem ok_is_choice {f f1 : Addr} {fd fd1 : FuncData} (D : Df K mg "is_choice" s_is_choice f fd ["names", "table"]) (D_is_key : Df K mg "is_key" s_is_key f1 fd1 ["name", "table"]) (T : Nms mg) : FnOk P w K mg base CX0 2 f fd ["names", "table"] (spIsChoice K) := by
  have G_is_key : FnOk P w K mg base CX0 1 f1 fd1 ["name", "table"] (spIsKey K) := ok_is_key D_is_key T
  refine D.F.ok sc_is_choice (fun vs H Q E h => ?_) (fun cdv A outer s H vs Q E hr h => ?_)
  · obtain ⟨a, t, kvs, zs, rfl, _⟩ := h
    rfl
  · obtain ⟨a, t, kvs, zs, rfl, ha, ht, hnd, hln, hin, q⟩ := h
    refine ⟨_, (pss_cons (ps_if (PW.pt (pw_or (pt_not (pt_val (pe_callB call_isi (by rfl) T.n_isinstance (by decide +kernel) (pa_cons (pv 0) (pa_cons (pe_bltn (v := .ty "tuple") (by rfl) T.n_tuple (by decide +kernel) rfl) pa_nil))))) (pw_or1 (pt_not (pt_val (pe_callB (cr_all rfl) (by rfl) T.n_all (by decide +kernel) (pa_cons (pe_lc (own := [("name", 2)]) (g := (gName 2)) (tt := tYes) rfl sc_is_choice.nd (pi_tup (pv 0)) (blkOk_by (own := [("name", 2)]) (N := N_is_choice) (sc := defScope s_is_choice) (by decide +kernel)) (fun _ _ _ _ _ => (pg_name (i := 2) sc_is_choice.nd rfl (.inl rfl))) (fun _ _ _ _ _ => pts_nil) (fun _ _ _ _ _ => (pe_call G_is_key (hr.mono (by decide)) (by rfl) D_is_key.g D_is_key.F.kp D_is_key.b .nil pass0 (pa_cons (pv 2) (pa_cons (pv 1) pa_nil))))) pa_nil)))))))
       (pss_one (ps_ret pe_bl))
       pss_nil)
      (pss_one (ps_ret (pe_cmpR op_eq (pe_lenSetN rfl (by rfl) T.n_len (by rfl) T.n_set (pv 0)) (pe_callB call_len_seq (by rfl) T.n_len (by decide +kernel) (pa_cons (pv 0) pa_nil)) (nomark _))))), ?_⟩
    refine ⟨.ref a, rfl, _, _, _, _, true, rfl, .ty "tuple", .base (.tup ha), kit_ty (by decide +kernel), true, rfl, iteF ?_⟩
    refine ⟨.ref a, rfl, a, rfl, ⟨_, .inl (.inl ha)⟩, fun Da nD => ?_⟩
    refine lc_all (walk_tup (xs := zs.map V.str)) (fun i x => ∃ z, zs[i]? = some z ∧ x = .str z) ?_ (fun H sm => .inl (.inl (sm _ _ ha))) nD (by rw [List.length_map]; exact hln) (fun _ => rfl) ?_ ?_
    · rintro i H x H' hi ⟨rfl, e⟩
      rw [List.getElem?_map] at e
      cases e3 : zs[i]? with
      | none => rw [e3] at e; cases e
      | some z =>
        rw [e3] at e
        cases e
        exact ⟨rfl, z, rfl, rfl⟩
    · rintro i x H2 Q2 hi ⟨z, ez, rfl⟩ sm k
      refine ⟨.str z, rfl, .ref t, rfl, .str z, t, rfl, .inl ⟨z, rfl, .inr ⟨kvs, .inl (sm _ _ ht), ?_⟩⟩⟩
      rw [hin z (List.mem_of_getElem? ez)]
      exact k _ (Same.refl _)
    · intro H2 sm e2
      refine ⟨Da, List.replicate (zs.map V.str).length true, rfl, SqL.of e2, true, ?_, iteF ?_⟩
      · rw [all_true]
      have ha2 : SqT K H2 a (zs.map V.str) := .inl (.inl (sm _ _ ha))
      refine ⟨.ref a, rfl, a, zs, rfl, ha2, hnd, hln, .ref a, rfl, a, _, rfl, .inr ha2, rfl, ?_⟩
      rw [List.length_map, decide_eq_true rfl]
      exact q _ sm
end
end NW
namespace NW
open PySem PySem.Spec PyProof.Rows L2
open TL (tl)
abbrev s_is_shape : Stmt := topS 16
abbrev N_is_shape : List Str := ["shape", "bases", "room", "outer"]
theorem sc_is_shape : FnScope N_is_shape ["shape", "bases", "room", "outer"] (defScope s_is_shape) := ⟨rfl, rfl, rfl, by decide +kernel, rfl, by decide +kernel, by decide +kernel⟩
/-- a def with two defaults -/
structure DfS (K : PySem.W.Frag) (mg : Str → Option Value) (f : Addr) (fd : FuncData) : Prop where
  F : FunD K "is_shape" "is_shape" (defArgs s_is_shape) (defBody s_is_shape) (defScope s_is_shape) [.int 4, .str ""] [] f fd
  g : mg "is_shape" = some (.ref f)
  b4 : Binds K fd ["shape", "bases", "room", "outer"] []
  b2 : ∃ ds, Vals [V.int 4, V.str ""] ds ∧ Binds K fd ["shape", "bases", "room", "outer"] ds
section
variable {P : Program} {w : World} {K : PySem.W.Frag} {mg : Str → Option Value} {base : Heap}
def spIsShape (K : PySem.W.Frag) (n : Nat) : Sp := fun vs H Q _ => ∃ (v : V) (bs : Addr) (l : List Str) (o : Str) (s : Shp), vs = [v, .ref bs, .int n, .str o] ∧ ShAt H v s ∧ okS l n (decide (o = "sure")) s ∧ SqL K H bs (l.map V.str) ∧ Q (.bl true) H
theorem inW_sure : inV (.str "sure") [.str "list", .str "sure"] = true := by decide +kernel
theorem inW_list : inV (.str "list") [.str "list", .str "sure"] = true := by decide +kernel
theorem list_sure : ¬ (V.str "list" = V.str "sure") := by decide +kernel
theorem ok_is_shape {f : Addr} {fd : FuncData} (D : DfS K mg f fd) (T : Nms mg) (C : Cst K mg) : ∀ n : Nat, FnOk P w K mg base CX0 (n + 1) f fd ["shape", "bases", "room", "outer"] (spIsShape K n) := by
  obtain ⟨wa, g_W, hW⟩ := C.WRAPPERS
  intro n
  induction n with
  | zero =>
    refine D.F.ok sc_is_shape (fun vs H Q E h => ?_) (fun cdv A outer s H vs Q E hr h => ?_)
    · obtain ⟨v, bs, l, o, s, rfl, _⟩ := h
      rfl
    · obtain ⟨v, bs, l, o, s, rfl, hv, hok, hb, q⟩ := h
      cases s with
      | sure s => exact hok.elim
      | list s => exact hok.elim
      | base z =>
        obtain rfl := hv
        refine ⟨_, pss_cons (ps_if (pt_not (pt_val (pe_callB call_isi (by rfl) T.n_isinstance (by decide +kernel) (pa_cons (pv 0) (pa_cons (pe_bltn (v := .ty "tuple") (by rfl) T.n_tuple (by decide +kernel) rfl) pa_nil)))))
         (pss_one (ps_ret (pe_and (pe_callB call_isi (by rfl) T.n_isinstance (by decide +kernel) (pa_cons (pv 0) (pa_cons (pe_bltn (v := .ty "str") (by rfl) T.n_str (by decide +kernel) rfl) pa_nil))) (pe_one (pe_cmpR op_in_seq (pv 0) (pv 1) (by rfl))))))
         pss_nil) (pss_cons ps_never (pss_cons ps_never (pss_one ps_never))), ?_⟩
        refine ⟨.str z, rfl, _, _, _, _, false, rfl, .ty "tuple", .base (.str z), kit_ty (by decide +kernel), false, rfl, iteT ?_⟩
        refine ⟨.str z, rfl, _, _, _, _, true, rfl, .ty "str", .base (.str z), kit_ty (by decide +kernel), true, rfl, iteT ⟨.str z, rfl, .ref bs, rfl, bs, _, rfl, .inl hb, rfl, flat_map l, ?_⟩⟩
        rw [inV_strs, decide_eq_true (show z ∈ l from hok)]
        exact q
  | succ n ih =>
    have G_is_shape := ih
    refine D.F.ok sc_is_shape (fun vs H Q E h => ?_) (fun cdv A outer s H vs Q E hr h => ?_)
    · obtain ⟨v, bs, l, o, s, rfl, _⟩ := h
      rfl
    · obtain ⟨v, bs, l, o, s, rfl, hv, hok, hb, q⟩ := h
      refine ⟨_, (pss_cons (ps_if (pt_not (pt_val (pe_callB call_isi (by rfl) T.n_isinstance (by decide +kernel) (pa_cons (pv 0) (pa_cons (pe_bltn (v := .ty "tuple") (by rfl) T.n_tuple (by decide +kernel) rfl) pa_nil)))))
         (pss_one (ps_ret (pe_and (pe_callB call_isi (by rfl) T.n_isinstance (by decide +kernel) (pa_cons (pv 0) (pa_cons (pe_bltn (v := .ty "str") (by rfl) T.n_str (by decide +kernel) rfl) pa_nil))) (pe_one (pe_cmpR op_in_seq (pv 0) (pv 1) (by rfl))))))
         pss_nil)
        (pss_cons (ps_if (PW.pt (pw_or (pt_cmpR op_eq (pv 2) pe_int (nomark _)) (pw_or (pt_cmpR op_ne (pe_callB call_len_seq (by rfl) T.n_len (by decide +kernel) (pa_cons (pv 0) pa_nil)) pe_int (nomark _)) (pw_or1 (pt_cmpR op_notIn_seq (pe_ix ix_tup (pv 0) pe_int (fun _ _ => rfl)) (pe_glob (v := .ref wa) (by rfl) g_W rfl) (by rfl))))))
         (pss_one (ps_ret pe_bl))
         pss_nil)
        (pss_cons (ps_if (PW.pt (pw_and (pt_cmpR op_eq (pe_ix ix_tup (pv 0) pe_int (fun _ _ => rfl)) pe_str (nomark _)) (pw_and1 (pt_cmpR op_eq (pv 3) pe_str (nomark _)))))
         (pss_one (ps_ret pe_bl))
         pss_nil)
        (pss_one (ps_ret (pe_call G_is_shape (hr.mono (by omega)) (by rfl) D.g D.F.kp D.b4 .nil pass0 (pa_cons (pe_ix ix_tup (pv 0) pe_int (fun _ _ => rfl)) (pa_cons (pv 1) (pa_cons (pe_op op_sub (pv 2) pe_int) (pa_cons (pe_ix ix_tup (pv 0) pe_int (fun _ _ => rfl)) pa_nil)))))))))), ?_⟩
      have n0 : ¬ (V.int ((n + 1 : Nat) : Int) = V.int 0) := fun e => by
        have := V.int.inj e
        omega
      cases s with
      | base z =>
        obtain rfl := hv
        refine ⟨.str z, rfl, _, _, _, _, false, rfl, .ty "tuple", .base (.str z), kit_ty (by decide +kernel), false, rfl, iteT ?_⟩
        refine ⟨.str z, rfl, _, _, _, _, true, rfl, .ty "str", .base (.str z), kit_ty (by decide +kernel), true, rfl, iteT ⟨.str z, rfl, .ref bs, rfl, bs, _, rfl, .inl hb, rfl, flat_map l, ?_⟩⟩
        rw [inV_strs, decide_eq_true (show z ∈ l from hok)]
        exact q
      | sure s =>
        obtain ⟨a, u, rfl, ha, hu⟩ := hv
        obtain ⟨ho, hok⟩ := hok
        have no : ¬ (V.str o = V.str "sure") := fun e => of_decide_eq_false ho (V.str.inj e)
        have hT : SqT K H a [.str "sure", u] := .inl (.inl ha)
        refine ⟨.ref a, rfl, _, _, _, _, true, rfl, .ty "tuple", .base (.tup ha), kit_ty (by decide +kernel), true, rfl, iteF ?_⟩
        refine ⟨_, rfl, rfl, false, blF n0, iteF ⟨.ref a, rfl, a, _, rfl, .inr hT, rfl, false, blNF rfl, iteF ⟨.ref a, rfl, a, _, 0, _, rfl, rfl, hT, atI_nat (j := 0) rfl, wa, _, rfl, .inr (hW H), rfl, rfl, false, ?_, iteF ?_⟩⟩⟩
        · show V.bl (!inV (.str "sure") [.str "list", .str "sure"]) = V.bl false
          rw [inW_sure]
          rfl
        refine ⟨.ref a, rfl, a, _, 0, _, rfl, rfl, hT, atI_nat (j := 0) rfl, rfl, true, blT rfl, iteT ⟨.str o, rfl, rfl, false, blF no, iteF ?_⟩⟩
        refine ⟨.ref a, rfl, a, _, 1, u, rfl, rfl, hT, atI_nat (j := 1) rfl, .ref bs, rfl, _, rfl, _, _, rfl, rfl, .ref a, rfl, a, _, 0, _, rfl, rfl, hT, atI_nat (j := 0) rfl, ?_⟩
        refine ⟨u, bs, l, "sure", s, ?_, hu, ?_, hb, q⟩
        · show [u, V.ref bs, V.int (((n + 1 : Nat) : Int) - 1), V.str "sure"] = [u, V.ref bs, V.int (n : Int), V.str "sure"]
          rw [show (((n + 1 : Nat) : Int) - 1) = (n : Int) by omega]
        · rw [decide_eq_true rfl]
          exact hok
      | list s =>
        obtain ⟨a, u, rfl, ha, hu⟩ := hv
        have hT : SqT K H a [.str "list", u] := .inl (.inl ha)
        refine ⟨.ref a, rfl, _, _, _, _, true, rfl, .ty "tuple", .base (.tup ha), kit_ty (by decide +kernel), true, rfl, iteF ?_⟩
        refine ⟨_, rfl, rfl, false, blF n0, iteF ⟨.ref a, rfl, a, _, rfl, .inr hT, rfl, false, blNF rfl, iteF ⟨.ref a, rfl, a, _, 0, _, rfl, rfl, hT, atI_nat (j := 0) rfl, wa, _, rfl, .inr (hW H), rfl, rfl, false, ?_, iteF ?_⟩⟩⟩
        · show V.bl (!inV (.str "list") [.str "list", .str "sure"]) = V.bl false
          rw [inW_list]
          rfl
        refine ⟨.ref a, rfl, a, _, 0, _, rfl, rfl, hT, atI_nat (j := 0) rfl, rfl, false, blF list_sure, iteF ?_⟩
        refine ⟨.ref a, rfl, a, _, 1, u, rfl, rfl, hT, atI_nat (j := 1) rfl, .ref bs, rfl, _, rfl, _, _, rfl, rfl, .ref a, rfl, a, _, 0, _, rfl, rfl, hT, atI_nat (j := 0) rfl, ?_⟩
        refine ⟨u, bs, l, "list", s, ?_, hu, ?_, hb, q⟩
        · show [u, V.ref bs, V.int (((n + 1 : Nat) : Int) - 1), V.str "list"] = [u, V.ref bs, V.int (n : Int), V.str "list"]
          rw [show (((n + 1 : Nat) : Int) - 1) = (n : Int) by omega]
        · rw [decide_eq_false (fun e => list_sure (congrArg V.str e))]
          exact hok
end
end NW
namespace NW
open PySem PySem.Spec PyProof.Rows L2
open TL (tl)
abbrev s_is_fields : Stmt := topS 29
abbrev N_is_fields : List Str := ["fields", "most", "bases", "name"]
theorem sc_is_fields : FnScope N_is_fields ["fields", "most", "bases"] (defScope s_is_fields) := ⟨rfl, rfl, rfl, by decide +kernel, rfl, by decide +kernel, by decide +kernel⟩
abbrev s_is_kind : Stmt := topS 30
abbrev N_is_kind : List Str := ["worth", "faces", "bases"]
theorem sc_is_kind : FnScope N_is_kind ["worth", "faces", "bases"] (defScope s_is_kind) := ⟨rfl, rfl, rfl, by decide +kernel, rfl, by decide +kernel, by decide +kernel⟩
abbrev s_has_fields : Stmt := topS 32
abbrev N_has_fields : List Str := ["holder", "fields", "field"]
theorem sc_has_fields : FnScope N_has_fields ["holder", "fields"] (defScope s_has_fields) := ⟨rfl, rfl, rfl, by decide +kernel, rfl, by decide +kernel, by decide +kernel⟩
abbrev s_is_face : Stmt := topS 31
abbrev N_is_face : List Str := ["name", "fields", "kinds", "bases", "holders", "kind", "holder"]
theorem sc_is_face : FnScope N_is_face ["name", "fields", "kinds", "bases"] (defScope s_is_face) := ⟨rfl, rfl, rfl, by decide +kernel, rfl, by decide +kernel, by decide +kernel⟩
abbrev s_is_union : Stmt := topS 33
abbrev N_is_union : List Str := ["worth", "kinds"]
theorem sc_is_union : FnScope N_is_union ["worth", "kinds"] (defScope s_is_union) := ⟨rfl, rfl, rfl, by decide +kernel, rfl, by decide +kernel, by decide +kernel⟩
/-! ### shapes as data -/
def shD : Shp → PyData
  | .base z => .str z
  | .sure s => .tuple [.str "sure", shD s]
  | .list s => .tuple [.str "list", shD s]
theorem tx_sure : PyData.strOk "sure" = true := by decide +kernel
theorem tx_list : PyData.strOk "list" = true := by decide +kernel
theorem shD_lay {l : List Str} (tx : ∀ z ∈ l, PyData.strOk z = true) : ∀ {s : Shp} {n : Nat} {o : Bool}, okS l n o s → (shD s).canLay0 = true := by
  intro s
  induction s with
  | base z =>
    intro n o h
    simp only [shD, PyData.canLay0]
    exact tx z (by cases n <;> exact h)
  | sure s ih =>
    intro n o h
    cases n with
    | zero => exact h.elim
    | succ n => simp [shD, PyData.canLay0, PyData.canLayAll0, ih h.2, tx_sure]
  | list s ih =>
    intro n o h
    cases n with
    | zero => exact h.elim
    | succ n => simp [shD, PyData.canLay0, PyData.canLayAll0, ih (show okS l n false s from h), tx_list]
def Shp.deep : Shp → Nat
  | .base _ => 0
  | .sure s => s.deep + 1
  | .list s => s.deep + 1
section
variable {P : Program} {w : World} {K : PySem.W.Frag} {mg : Str → Option Value} {base : Heap}

theorem shD_dp {H : Hp} : ∀ {s : Shp} {v : V}, ShAt H v s → Dp K H v (shD s) := by
  intro s
  induction s with
  | base z => rintro v rfl; exact .str z
  | sure s ih =>
    rintro v ⟨a, u, rfl, ha, hu⟩
    exact .tup (.inl (.inl ha)) (.cons (.str _) (.cons (ih hu) .nil))
  | list s ih =>
    rintro v ⟨a, u, rfl, ha, hu⟩
    exact .tup (.inl (.inl ha)) (.cons (.str _) (.cons (ih hu) .nil))
theorem okS_deep {l : List Str} : ∀ {n : Nat} {o : Bool} {s : Shp}, okS l n o s → s.deep ≤ n := by
  intro n o s
  induction s generalizing n o with
  | base z => intro _; exact Nat.zero_le _
  | sure s ih =>
    intro h
    cases n with
    | zero => exact h.elim
    | succ n => exact Nat.succ_le_succ (ih h.2)
  | list s ih =>
    intro h
    cases n with
    | zero => exact h.elim
    | succ n => exact Nat.succ_le_succ (ih (show okS l n false s from h))
theorem shD_deep : ∀ s : Shp, (shD s).depth ≤ s.deep + 1 := by
  intro s
  induction s with
  | base z => simp [shD, PyData.depth]
  | sure s ih => simp [shD, PyData.depth, PyData.depthAll, Shp.deep]; omega
  | list s ih => simp [shD, PyData.depth, PyData.depthAll, Shp.deep]; omega
theorem shD_ok {l : List Str} {o : Bool} {s : Shp} (tx : ∀ z ∈ l, PyData.strOk z = true) (h : okS l 4 o s) : SeqAt.shaped (shD s) = true := by
  have h1 := okS_deep h
  have h2 := shD_deep s
  exact Bool.and_eq_true_iff.mpr ⟨shD_lay tx h, decide_eq_true (by omega)⟩
/-! ### a dict that is walked -/
theorem sqL_put {H : Hp} {t tk : Addr} {kvs : List (Key × V)} {o : HO} {xs : List V} (e : H t = some (.dK kvs)) (h : SqL K H tk xs) : SqL K (upd H t o) tk xs := by
  rcases h with (h | ⟨o', h⟩) | h
  · exact .inl (.inl (by rw [upd_ne (ne_of h e (by intro z; cases z))]; exact h))
  · exact .inl (.inr ⟨o', by rw [upd_ne (ne_of h e (by intro z; cases z))]; exact h⟩)
  · exact .inr h
theorem rd_put {H : Hp} {a d : Addr} {kvs : List (Key × V)} {u : HO} {od : Obj} (e : H d = some u) (h : H a = some (.dK kvs)) : Rd (upd H d (.frz od u)) a (.dK kvs) := by
  by_cases n : a = d
  · subst n
    rw [e] at h
    cases h
    exact .inr ⟨od, upd_same⟩
  · exact .inl (by rw [upd_ne n]; exact h)
theorem rd_same {H H' : Hp} {a : Addr} {u : HO} (x : Same H H') (h : Rd H a u) : Rd H' a u := by
  rcases h with h | ⟨o, h⟩
  · exact .inl (x _ _ h)
  · exact .inr ⟨o, x _ _ h⟩
theorem fkv_keys (fs : List Fld) : (fkv fs).map (·.1) = (fs.map (·.1)).map Sum.inr := keys_map fs (·.1) (·.2.1)
theorem fkv_at {fs : List Fld} {i : Nat} {k : Key} {v : V} (e : (fkv fs)[i]? = some (k, v)) : ∃ f, fs[i]? = some f ∧ k = Sum.inr f.1 ∧ v = f.2.1 := by
  unfold fkv at e
  rw [List.getElem?_map] at e
  cases h : fs[i]? with
  | none => rw [h] at e; cases e
  | some f =>
    rw [h] at e
    cases e
    exact ⟨f, rfl, rfl, rfl⟩
theorem fkv_val {fs : List Fld} (nd : (fs.map (·.1)).Nodup) {f : Fld} (m : f ∈ fs) : valV (fkv fs) (Sum.inr f.1) = some f.2.1 := valV_map (f := fun f : Fld => f.1) (g := fun f => f.2.1) nd m
def spIsFields (K : PySem.W.Frag) : Sp := fun vs H Q _ => ∃ (d bs : Addr) (m : Nat) (fs : List Fld) (l : List Str), vs = [.ref d, .int m, .ref bs] ∧ FldAt H d fs ∧ FdsOk l fs m ∧ m ≤ 1000 ∧ SqL K H bs (l.map V.str) ∧ ∀ H', Same H H' → Q (.bl true) H'
theorem ok_is_fields {f f1 f2 : Addr} {fd fd1 fd2 : FuncData} (D : Df K mg "is_fields" s_is_fields f fd ["fields", "most", "bases"]) (D_is_table : Df K mg "is_table" s_is_table f1 fd1 ["table", "least", "most", "taken"])
    (D_is_shape : DfS K mg f2 fd2) (T : Nms mg) (C : Cst K mg) (G_is_table : FnOk P w K mg base CX0 2 f1 fd1 ["table", "least", "most", "taken"] (spIsTable K)) : FnOk P w K mg base CX0 6 f fd ["fields", "most", "bases"] (spIsFields K) := by
  have G_is_shape : FnOk P w K mg base CX0 5 f2 fd2 ["shape", "bases", "room", "outer"] (spIsShape K 4) := ok_is_shape D_is_shape T C 4
  obtain ⟨ds, rS, bS⟩ := D_is_shape.b2
  refine D.F.ok sc_is_fields (fun vs H Q E h => ?_) (fun cdv A outer s H vs Q E hr h => ?_)
  · obtain ⟨d, bs, m, fs, l, rfl, _⟩ := h
    rfl
  · obtain ⟨d, bs, m, fs, l, rfl, hf, ok, hm, hb, q⟩ := h
    have hu := hu_of hr
    refine ⟨_, (pss_cons (ps_if (pt_not (pt_val (pe_call G_is_table (hr.mono (by decide)) (by rfl) D_is_table.g D_is_table.F.kp D_is_table.b .nil pass0 (pa_cons (pv 0) (pa_cons pe_int (pa_cons (pv 1) (pa_cons (pe_tup pa_nil) pa_nil)))))))
       (pss_one (ps_ret pe_bl))
       pss_nil)
      (pss_one (ps_ret (pe_callB (cr_all rfl) (by rfl) T.n_all (by decide +kernel) (pa_cons (pe_lock (pe_lc (own := [("name", 3)]) (g := (gName 3)) (tt := tYes) rfl sc_is_fields.nd (pi_keys (pv 0)) (blkOk_by (own := [("name", 3)]) (N := N_is_fields) (sc := defScope s_is_fields) (by decide +kernel)) (fun _ _ _ _ _ => (pg_name (i := 3) sc_is_fields.nd rfl (.inl rfl))) (fun _ _ _ _ _ => pts_nil) (fun _ _ _ _ _ => (pe_call G_is_shape (hr.mono (by decide)) (by rfl) D_is_shape.g D_is_shape.F.kp bS rS pass0 (pa_cons (pe_dget hu (pv 0) (pv 3) (fun _ _ => rfl)) (pa_cons (pv 2) pa_nil)))))) pa_nil))))), ?_⟩
    -- is_table(fields, 1, most, ())
    refine ⟨.ref d, rfl, .int m, rfl, Nat.zero_le _, fun p np => ?_⟩
    refine ⟨d, p, fkv fs, fs.map (·.1), [], 1, m, rfl, by rw [upd_ne (ne_of_none hf.at_ np)]; exact hf.at_, fkv_keys fs, fun z hz => ⟨?_, by simp⟩, ?_, ?_, ?_, .inr (.inl (.inl upd_same)), fun H1 s1 => ⟨true, rfl, iteF ?_⟩⟩
    · obtain ⟨x, hx, rfl⟩ := List.mem_map.mp hz
      exact ok.nm x hx
    · rw [List.length_map]; have := ok.n0; omega
    · rw [List.length_map]; have := ok.n1; omega
    · rw [List.length_map]; have := ok.n1; omega
    have sm1 : Same H H1 := (same_new np).trans s1
    have hf1 := hf.same sm1
    -- all([..])
    refine ⟨d, .dK (fkv fs), hf1.at_, trivial, fun od => ⟨.ref d, rfl, d, od, rfl, .inl ⟨fkv fs, upd_same, fun Da nD => ?_⟩⟩⟩
    have hfl : (fkv fs).length = fs.length := List.length_map ..
    refine lc_all walk_keys (fun i x => ∃ f, fs[i]? = some f ∧ x = .str f.1) ?_ (fun H sm => sm _ _ upd_same) nD (by rw [hfl]; have := ok.n1; omega) (fun _ => rfl) ?_ ?_
    · rintro i H x H' hi ⟨rfl, k, v, e, rfl⟩
      obtain ⟨f, ef, rfl, rfl⟩ := fkv_at e
      exact ⟨rfl, f, ef, rfl⟩
    · rintro i x H2 Q2 hi ⟨f, ef, rfl⟩ sm k
      have hm := List.mem_of_getElem? ef
      refine ⟨.ref d, rfl, .str f.1, rfl, d, f.2.1, rfl, .inl ⟨fkv fs, .inr f.1, .inr ⟨od, sm _ _ upd_same⟩, rfl, (fkv_val ok.nd hm).symm⟩, .ref bs, rfl, ?_⟩
      refine ⟨f.2.1, bs, l, "", f.2.2, rfl, ?_, ?_, sm.seq (sqL_put hf1.at_ (sm1.seq hb)), k _ (Same.refl _)⟩
      · exact ((hf1.sh f hm).gr (xs := []) (.inr ⟨_, hf1.at_⟩) Gr.box).same sm
      · rw [decide_eq_false (show ¬ (("" : Str) = "sure") by decide +kernel)]
        exact ok.sh f hm
    · intro H2 sm e2
      refine ⟨sm _ _ upd_same, Da, List.replicate (fkv fs).length true, rfl, SqL.of ?_, ?_⟩
      · rw [upd_ne (show Da ≠ d from fun z => by rw [z, upd_same] at nD; cases nD)]
        exact e2
      · rw [all_true]
        exact q _ (sm1.trans (same_unlock hf1.at_ sm))
def spIsKind (K : PySem.W.Frag) : Sp := fun vs H Q _ => ∃ (k : KRow) (ft bs : Addr) (kvs : List (Key × V)) (l : List Str), vs = [.ref k.t, .ref ft, .ref bs] ∧ k.At H ∧ H ft = some (.dK kvs) ∧ k.fcs.Nodup ∧ k.fcs.length ≤ 1000 ∧ (∀ z ∈ k.fcs, (valV kvs (Sum.inr z)).isSome = true) ∧
  FdsOk l k.fds 5 ∧ SqL K H bs (l.map V.str) ∧ ∀ H', Same H H' → Q (.bl true) H'
theorem ok_is_kind {f f1 f2 : Addr} {fd fd1 fd2 : FuncData} (D : Df K mg "is_kind" s_is_kind f fd ["worth", "faces", "bases"]) (D_is_choice : Df K mg "is_choice" s_is_choice f1 fd1 ["names", "table"])
    (D_is_fields : Df K mg "is_fields" s_is_fields f2 fd2 ["fields", "most", "bases"]) (T : Nms mg) (C : Cst K mg) (G_is_choice : FnOk P w K mg base CX0 2 f1 fd1 ["names", "table"] (spIsChoice K)) (G_is_fields : FnOk P w K mg base CX0 6 f2 fd2 ["fields", "most", "bases"] (spIsFields K)) :
    FnOk P w K mg base CX0 7 f fd ["worth", "faces", "bases"] (spIsKind K) := by
  obtain ⟨t5, g_M⟩ := C.MOST_KIND_FIELDS
  refine D.F.ok sc_is_kind (fun vs H Q E h => ?_) (fun cdv A outer s H vs Q E hr h => ?_)
  · obtain ⟨k, ft, bs, kvs, l, rfl, _⟩ := h
    rfl
  · obtain ⟨k, ft, bs, kvs, l, rfl, hk, hft, hnd, hln, hin, ok, hb, q⟩ := h
    refine ⟨_, (pss_cons (ps_if (PW.pt (pw_or (pt_not (pt_val (pe_callB call_isi (by rfl) T.n_isinstance (by decide +kernel) (pa_cons (pv 0) (pa_cons (pe_bltn (v := .ty "tuple") (by rfl) T.n_tuple (by decide +kernel) rfl) pa_nil))))) (pw_or1 (pt_cmpR op_ne (pe_callB call_len_seq (by rfl) T.n_len (by decide +kernel) (pa_cons (pv 0) pa_nil)) pe_int (nomark _)))))
       (pss_one (ps_ret pe_bl))
       pss_nil)
      (pss_one (ps_ret (pe_and (pe_call G_is_choice (hr.mono (by decide)) (by rfl) D_is_choice.g D_is_choice.F.kp D_is_choice.b .nil pass0 (pa_cons (pe_ix ix_tup (pv 0) pe_int (fun _ _ => rfl)) (pa_cons (pv 1) pa_nil))) (pe_one (pe_call G_is_fields (hr.mono (by decide)) (by rfl) D_is_fields.g D_is_fields.F.kp D_is_fields.b .nil pass0 (pa_cons (pe_ix ix_tup (pv 0) pe_int (fun _ _ => rfl)) (pa_cons (pe_glob (v := .int 5) (by rfl) g_M ⟨_, rfl⟩) (pa_cons (pv 2) pa_nil))))))))), ?_⟩
    have hT : SqT K H k.t [.ref k.fa, .ref k.da] := .inl (.inl hk.t)
    refine ⟨.ref k.t, rfl, _, _, _, _, true, rfl, .ty "tuple", .base (.tup hk.t), kit_ty (by decide +kernel), true, rfl, iteF ⟨.ref k.t, rfl, k.t, _, rfl, .inr hT, rfl, false, blNF rfl, iteF ?_⟩⟩
    refine ⟨.ref k.t, rfl, k.t, _, 0, _, rfl, rfl, hT, atI_nat (j := 0) rfl, .ref ft, rfl, k.fa, ft, kvs, k.fcs, rfl, hk.f, hft, hnd, hln, hin, fun H1 s1 => ⟨true, rfl, iteT ?_⟩⟩
    have hk1 := hk.same s1
    refine ⟨.ref k.t, rfl, k.t, _, 1, _, rfl, rfl, .inl (.inl hk1.t), atI_nat (j := 1) rfl, .ref bs, rfl, k.da, bs, 5, k.fds, l, rfl, hk1.d, ok, by decide, s1.seq hb, fun H2 s2 => q _ (s1.trans s2)⟩
def spHasFields : Sp := fun vs H Q _ => ∃ (h d : Addr) (hs fs : List Fld) (l : List Str) (n : Nat), vs = [.ref h, .ref d] ∧ FldAt H h hs ∧ FldAt H d fs ∧ (hs.map (·.1)).Nodup ∧ FdsOk l fs n ∧ n ≤ 1000 ∧ (∀ x ∈ fs, ∃ y ∈ hs, y.1 = x.1 ∧ y.2.2 = x.2.2) ∧ ∀ H', Same H H' → Q (.bl true) H'
theorem ok_has_fields {f : Addr} {fd : FuncData} (D : Df K mg "has_fields" s_has_fields f fd ["holder", "fields"]) (T : Nms mg) : FnOk P w K mg base CX0 1 f fd ["holder", "fields"] spHasFields := by
  refine D.F.ok sc_has_fields (fun vs H Q E h => ?_) (fun cdv A outer s H vs Q E hr h => ?_)
  · obtain ⟨h, d, hs, fs, l, n, rfl, _⟩ := h
    rfl
  · obtain ⟨h, d, hs, fs, l, n, rfl, hh, hf, hnd, ok, hn, hin, q⟩ := h
    have hu := hu_of hr
    refine ⟨_, (pss_one (ps_ret (pe_callB (cr_all rfl) (by rfl) T.n_all (by decide +kernel) (pa_cons (pe_lock (pe_lc (own := [("field", 2)]) (g := (gName 2)) (tt := tYes) rfl sc_has_fields.nd (pi_keys (pv 1)) (blkOk_by (own := [("field", 2)]) (N := N_has_fields) (sc := defScope s_has_fields) (by decide +kernel)) (fun _ _ _ _ _ => (pg_name (i := 2) sc_has_fields.nd rfl (.inl rfl))) (fun _ _ _ _ _ => pts_nil) (fun _ _ _ _ _ => (pe_and (pe_cmp (pc_din hu (pv 2) (pv 0)) rfl) (pe_one (pe_cmpR (op_eqDK K hr.units) (pe_dget hu (pv 0) (pv 2) (fun _ _ => rfl)) (pe_dget hu (pv 1) (pv 2) (fun _ _ => rfl)) (nomark _))))))) pa_nil)))), ?_⟩
    refine ⟨d, .dK (fkv fs), hf.at_, trivial, fun od => ⟨.ref d, rfl, d, od, rfl, .inl ⟨fkv fs, upd_same, fun Da nD => ?_⟩⟩⟩
    have hfl : (fkv fs).length = fs.length := List.length_map ..
    refine lc_all walk_keys (fun i x => ∃ f, fs[i]? = some f ∧ x = .str f.1) ?_ (fun H sm => sm _ _ upd_same) nD (by rw [hfl]; have := ok.n1; omega) (fun _ => rfl) ?_ ?_
    · rintro i H x H' hi ⟨rfl, k, v, e, rfl⟩
      obtain ⟨f, ef, rfl, rfl⟩ := fkv_at e
      exact ⟨rfl, f, ef, rfl⟩
    · rintro i x H2 Q2 hi ⟨f, ef, rfl⟩ sm k
      have hm := List.mem_of_getElem? ef
      obtain ⟨y, ym, y1, y2⟩ := hin f hm
      have rh : Rd H2 h (.dK (fkv hs)) := rd_same sm (rd_put hf.at_ hh.at_)
      have vy : valV (fkv hs) (Sum.inr f.1) = some y.2.1 := by rw [← y1]; exact fkv_val hnd ym
      have sh1 : ShAt H2 y.2.1 f.2.2 := by
        rw [← y2]
        exact ((hh.sh y ym).gr (xs := []) (.inr ⟨_, hf.at_⟩) Gr.box).same sm
      have sh2 : ShAt H2 f.2.1 f.2.2 := ((hf.sh f hm).gr (xs := []) (.inr ⟨_, hf.at_⟩) Gr.box).same sm
      refine ⟨.str f.1, rfl, .ref h, rfl, h, some y.2.1, rfl, .inl ⟨fkv hs, .inr f.1, rh, rfl, vy.symm⟩, true, rfl, iteT ?_⟩
      refine ⟨.ref h, rfl, .str f.1, rfl, h, y.2.1, rfl, .inl ⟨fkv hs, .inr f.1, rh, rfl, vy.symm⟩, .ref d, rfl, .str f.1, rfl, d, f.2.1, rfl, .inl ⟨fkv fs, .inr f.1, .inr ⟨od, sm _ _ upd_same⟩, rfl, (fkv_val ok.nd hm).symm⟩, ?_⟩
      refine ⟨shD f.2.2, shD f.2.2, shD_dp sh1, shD_dp sh2, shD_ok ok.tx (ok.sh f hm), shD_ok ok.tx (ok.sh f hm), ?_⟩
      rw [SeqAt.eqv_refl _ (shD_lay ok.tx (ok.sh f hm))]
      exact k _ (Same.refl _)
    · intro H2 sm e2
      refine ⟨sm _ _ upd_same, Da, List.replicate (fkv fs).length true, rfl, SqL.of ?_, ?_⟩
      · rw [upd_ne (show Da ≠ d from fun z => by rw [z, upd_same] at nD; cases nD)]
        exact e2
      · rw [all_true]
        exact q _ (same_unlock hf.at_ sm)
def spIsUnion : Sp := fun vs H Q _ => ∃ (a kt : Addr) (kvs : List (Key × V)) (ms : List Str), vs = [.ref a, .ref kt] ∧ H a = some (.tup (ms.map V.str)) ∧ H kt = some (.dK kvs) ∧ ms.Nodup ∧ 1 ≤ ms.length ∧ ms.length ≤ 4 ∧ (∀ z ∈ ms, (valV kvs (Sum.inr z)).isSome = true) ∧ ∀ H', Same H H' → Q (.bl true) H'
theorem ok_is_union {f f1 : Addr} {fd fd1 : FuncData} (D : Df K mg "is_union" s_is_union f fd ["worth", "kinds"]) (D_is_choice : Df K mg "is_choice" s_is_choice f1 fd1 ["names", "table"]) (T : Nms mg) (C : Cst K mg)
    (G_is_choice : FnOk P w K mg base CX0 2 f1 fd1 ["names", "table"] (spIsChoice K)) : FnOk P w K mg base CX0 3 f fd ["worth", "kinds"] spIsUnion := by
  obtain ⟨t4, g_M⟩ := C.MOST_UNION_KINDS
  refine D.F.ok sc_is_union (fun vs H Q E h => ?_) (fun cdv A outer s H vs Q E hr h => ?_)
  · obtain ⟨a, kt, kvs, ms, rfl, _⟩ := h
    rfl
  · obtain ⟨a, kt, kvs, ms, rfl, ha, hk, hnd, h1, h4, hin, q⟩ := h
    refine ⟨_, (pss_one (ps_ret (pe_and (pe_call G_is_choice (hr.mono (by decide)) (by rfl) D_is_choice.g D_is_choice.F.kp D_is_choice.b .nil pass0 (pa_cons (pv 0) (pa_cons (pv 1) pa_nil))) (pe_one (pe_chain op_le op_le pe_int (pe_callB call_len_seq (by rfl) T.n_len (by decide +kernel) (pa_cons (pv 0) pa_nil)) (pe_glob (v := .int 4) (by rfl) g_M ⟨_, rfl⟩)))))), ?_⟩
    refine ⟨.ref a, rfl, .ref kt, rfl, a, kt, kvs, ms, rfl, ha, hk, hnd, by omega, hin, fun H1 s1 => ⟨true, rfl, iteT ?_⟩⟩
    refine ⟨.ref a, rfl, a, _, rfl, .inr (.inl (.inl (s1 _ _ ha))), _, _, rfl, rfl, true, blT (by rw [List.length_map]; omega), iteT ⟨_, _, rfl, rfl, ?_⟩⟩
    have e : decide (((ms.map V.str).length : Int) ≤ 4) = true := decide_eq_true (by rw [List.length_map]; omega)
    show Q (.bl (decide (((ms.map V.str).length : Int) ≤ 4))) H1
    rw [e]
    exact q _ s1
end
end NW
namespace NW
open PySem PySem.Spec PyProof.Rows L2
open TL (tl)
open StX (pa_star)
abbrev s_check_names : Stmt := topS 26
abbrev N_check_names : List Str := ["kinds", "faces", "unions"]
theorem sc_check_names : FnScope N_check_names ["kinds", "faces", "unions"] (defScope s_check_names) := ⟨rfl, rfl, rfl, by decide +kernel, rfl, by decide +kernel, by decide +kernel⟩
abbrev s_check_schema : Stmt := topS 25
abbrev N_check_schema : List Str := ["kinds", "faces", "unions", "root", "bases", "name"]
theorem sc_check_schema : FnScope N_check_schema ["kinds", "faces", "unions", "root"] (defScope s_check_schema) := ⟨rfl, rfl, rfl, by decide +kernel, rfl, by decide +kernel, by decide +kernel⟩
theorem kV_map {α : Type} (l : List α) (f : α → Str) (g : α → V) : ((l.map fun a => ((Sum.inr (f a) : Key), g a)).map fun kv => kV kv.1) = (l.map f).map V.str := by
  rw [List.map_map, List.map_map]
  rfl
abbrev dkeys (kvs : List (Key × V)) : List V := kvs.map fun kv => kV kv.1
abbrev LV : List Str := [("number" : Str), ("text" : Str)]
theorem dkeys_k (ks : List KRow) : dkeys (kkv ks) = (ks.map fun k : KRow => k.nm).map V.str := kV_map ks (fun k => k.nm) (fun k => V.ref k.t)
theorem dkeys_f (fs : List FRow) : dkeys (fkvs fs) = (fs.map fun k : FRow => k.nm).map V.str := kV_map fs (fun k => k.nm) (fun k => V.ref k.da)
theorem dkeys_u (us : List URow) : dkeys (ukv us) = (us.map fun k : URow => k.nm).map V.str := kV_map us (fun k => k.nm) (fun k => V.ref k.t)
theorem dkeys_len (kvs : List (Key × V)) : (dkeys kvs).length = kvs.length := List.length_map ..
/-! ### what the names of a schema are -/
section
variable {ks : List KRow} {fs : List FRow} {us : List URow} {root : Str}
theorem SchOk.ndk (h : SchOk ks fs us root) : (ks.map (·.nm)).Nodup := ((List.nodup_append.mp (List.nodup_append.mp h.nd).2.1)).1
theorem SchOk.ndfu (h : SchOk ks fs us root) : (fs.map (·.nm) ++ us.map (·.nm)).Nodup := ((List.nodup_append.mp (List.nodup_append.mp h.nd).2.1)).2.1
theorem SchOk.ndf (h : SchOk ks fs us root) : (fs.map (·.nm)).Nodup := (List.nodup_append.mp h.ndfu).1
theorem SchOk.ndu (h : SchOk ks fs us root) : (us.map (·.nm)).Nodup := (List.nodup_append.mp h.ndfu).2.1
theorem SchOk.lv (h : SchOk ks fs us root) {z : Str} (m : z ∈ ks.map (·.nm) ++ (fs.map (·.nm) ++ us.map (·.nm))) : z ∉ [("number" : Str), ("text" : Str)] := fun q => (List.nodup_append.mp h.nd).2.2 z q z m rfl
theorem SchOk.kfu (h : SchOk ks fs us root) {z : Str} (m : z ∈ ks.map (·.nm)) : z ∉ fs.map (·.nm) ++ us.map (·.nm) := fun q => (List.nodup_append.mp (List.nodup_append.mp h.nd).2.1).2.2 z m z q rfl
theorem SchOk.fu (h : SchOk ks fs us root) {z : Str} (m : z ∈ fs.map (·.nm)) : z ∉ us.map (·.nm) := fun q => (List.nodup_append.mp h.ndfu).2.2 z m z q rfl
theorem kkv_keys (ks : List KRow) : (kkv ks).map (·.1) = (ks.map (·.nm)).map Sum.inr := keys_map ks (·.nm) (V.ref ·.t)
theorem fkvs_keys (fs : List FRow) : (fkvs fs).map (·.1) = (fs.map (·.nm)).map Sum.inr := keys_map fs (·.nm) (V.ref ·.da)
theorem ukv_keys (us : List URow) : (ukv us).map (·.1) = (us.map (·.nm)).map Sum.inr := keys_map us (·.nm) (V.ref ·.t)
theorem kkv_val (nd : (ks.map (·.nm)).Nodup) {k : KRow} (m : k ∈ ks) : valV (kkv ks) (Sum.inr k.nm) = some (.ref k.t) := valV_map (f := fun k : KRow => k.nm) (g := fun k : KRow => V.ref k.t) nd m
theorem fkvs_val (nd : (fs.map (·.nm)).Nodup) {k : FRow} (m : k ∈ fs) : valV (fkvs fs) (Sum.inr k.nm) = some (.ref k.da) := valV_map (f := fun k : FRow => k.nm) (g := fun k : FRow => V.ref k.da) nd m
theorem ukv_val (nd : (us.map (·.nm)).Nodup) {k : URow} (m : k ∈ us) : valV (ukv us) (Sum.inr k.nm) = some (.ref k.t) := valV_map (f := fun k : URow => k.nm) (g := fun k : URow => V.ref k.t) nd m
theorem kkv_some (nd : (ks.map (·.nm)).Nodup) {z : Str} (m : z ∈ ks.map (·.nm)) : (valV (kkv ks) (Sum.inr z)).isSome = true := by
  obtain ⟨k, hk, rfl⟩ := List.mem_map.mp m
  rw [kkv_val nd hk]
  rfl
theorem fkvs_some (nd : (fs.map (·.nm)).Nodup) {z : Str} (m : z ∈ fs.map (·.nm)) : (valV (fkvs fs) (Sum.inr z)).isSome = true := by
  obtain ⟨k, hk, rfl⟩ := List.mem_map.mp m
  rw [fkvs_val nd hk]
  rfl
theorem kkv_at {i : Nat} {k : Key} {v : V} (e : (kkv ks)[i]? = some (k, v)) : ∃ r, ks[i]? = some r ∧ k = Sum.inr r.nm ∧ v = .ref r.t := by
  unfold kkv at e
  rw [List.getElem?_map] at e
  cases h : ks[i]? with
  | none => rw [h] at e; cases e
  | some f =>
    rw [h] at e
    cases e
    exact ⟨f, rfl, rfl, rfl⟩
end
section
variable {P : Program} {w : World} {K : PySem.W.Frag} {mg : Str → Option Value} {base : Heap}

def spIsFace (K : PySem.W.Frag) : Sp := fun vs H Q _ => ∃ (kt bs : Addr) (f : FRow) (ks : List KRow) (l : List Str), vs = [.str f.nm, .ref f.da, .ref kt, .ref bs] ∧ FldAt H f.da f.fds ∧ FdsOk l f.fds 4 ∧ H kt = some (.dK (kkv ks)) ∧ (∀ k ∈ ks, k.At H) ∧ (ks.map (·.nm)).Nodup ∧ ks.length ≤ 6 ∧
  (∀ k ∈ ks, (k.fds.map (·.1)).Nodup) ∧ (∃ k ∈ ks, f.nm ∈ k.fcs) ∧ (∀ k ∈ ks, f.nm ∈ k.fcs → ∀ x ∈ f.fds, ∃ y ∈ k.fds, y.1 = x.1 ∧ y.2.2 = x.2.2) ∧ SqL K H bs (l.map V.str) ∧ ∀ H', Same H H' → Q (.bl true) H'
theorem ok_is_face {f f1 f2 : Addr} {fd fd1 fd2 : FuncData} (D : Df K mg "is_face" s_is_face f fd ["name", "fields", "kinds", "bases"]) (D_is_fields : Df K mg "is_fields" s_is_fields f1 fd1 ["fields", "most", "bases"])
    (D_has_fields : Df K mg "has_fields" s_has_fields f2 fd2 ["holder", "fields"]) (T : Nms mg) (C : Cst K mg) (G_is_fields : FnOk P w K mg base CX0 6 f1 fd1 ["fields", "most", "bases"] (spIsFields K)) : FnOk P w K mg base CX0 7 f fd ["name", "fields", "kinds", "bases"] (spIsFace K) := by
  have G_has_fields : FnOk P w K mg base CX0 1 f2 fd2 ["holder", "fields"] spHasFields := ok_has_fields D_has_fields T
  obtain ⟨t4, g_M⟩ := C.MOST_FACE_FIELDS
  refine D.F.ok sc_is_face (fun vs H Q E h => ?_) (fun cdv A outer s H vs Q E hr h => ?_)
  · obtain ⟨kt, bs, f, ks, l, rfl, _⟩ := h
    rfl
  · obtain ⟨kt, bs, f, ks, l, rfl, hf, ok, hk, hka, hnd, hl6, hfn, ⟨k0, hk0, hk1⟩, hff, hb, q⟩ := h
    have hu := hu_of hr
    refine ⟨_, (pss_cons (ps_if (pt_not (pt_val (pe_call G_is_fields (hr.mono (by decide)) (by rfl) D_is_fields.g D_is_fields.F.kp D_is_fields.b .nil pass0 (pa_cons (pv 1) (pa_cons (pe_glob (v := .int 4) (by rfl) g_M ⟨_, rfl⟩) (pa_cons (pv 3) pa_nil))))))
       (pss_one (ps_ret pe_bl))
       pss_nil)
      (pss_cons (ps_lock (ps_setLc (i := 4) (own := [("kind", 5)]) (g := (gName 5)) rfl sc_is_face.nd rfl rfl (sw_true rfl rfl rfl (by decide +kernel)) (pi_keys (pv 2)) (blkOk_by (own := [("kind", 5)]) (N := N_is_face) (sc := defScope s_is_face) (by decide +kernel)) (fun _ _ _ _ _ => (pg_name (i := 5) sc_is_face.nd rfl (.inl rfl))) (fun _ _ _ _ _ => pts_one (pt_cmpR (op_in_seqK K) (pv 0) (pe_ix (ix_tupK K) (pe_dget hu (pv 2) (pv 5) (fun _ _ => rfl)) pe_int (fun _ _ => rfl)) (by rfl))) (fun _ _ _ _ _ => (pe_ix (ix_tupK K) (pe_dget hu (pv 2) (pv 5) (fun _ _ => rfl)) pe_int (fun _ _ => rfl)))))
      (pss_one (ps_ret (pe_and (pe_cmpR op_gt (pe_callB call_len_seq (by rfl) T.n_len (by decide +kernel) (pa_cons (pv 4) pa_nil)) pe_int (nomark _)) (pe_one (pe_callB (cr_all rfl) (by rfl) T.n_all (by decide +kernel) (pa_cons (pe_lc (own := [("holder", 6)]) (g := (gName 6)) (tt := tYes) rfl sc_is_face.nd (pi_list (pv 4)) (blkOk_by (own := [("holder", 6)]) (N := N_is_face) (sc := defScope s_is_face) (by decide +kernel)) (fun _ _ _ _ _ => (pg_name (i := 6) sc_is_face.nd rfl (.inl rfl))) (fun _ _ _ _ _ => pts_nil) (fun _ _ _ _ _ => (pe_call G_has_fields (hr.mono (by decide)) (by rfl) D_has_fields.g D_has_fields.F.kp D_has_fields.b .nil pass0 (pa_cons (pv 6) (pa_cons (pv 1) pa_nil))))) pa_nil)))))))), ?_⟩
    refine ⟨.ref f.da, rfl, .ref bs, rfl, f.da, bs, 4, f.fds, l, rfl, hf, ok, by decide, hb, fun H1 s1 => ⟨true, rfl, iteF ?_⟩⟩
    have hk1' := s1 _ _ hk
    -- holders
    refine ⟨kt, .dK (kkv ks), hk1', trivial, fun od => ⟨.ref kt, rfl, kt, od, rfl, .inl ⟨kkv ks, upd_same, fun Da nD => ?_⟩⟩⟩
    have hkl : (kkv ks).length = ks.length := List.length_map ..
    refine lc_it walk_keys (fun i H' => Same (upd H1 kt (.frz od (.dK (kkv ks)))) H' ∧ H' Da = some (.lst (((ks.take i).filter fun k => decide (f.nm ∈ k.fcs)).map fun k => V.ref k.da))) ⟨same_new nD, upd_same⟩ (fun i H _ p => p.1 _ _ upd_same) ?_ ?_
    · rintro i x H2 H3 hi ⟨sm, e2⟩ ⟨rfl, k, v, e, rfl⟩
      obtain ⟨r, er, rfl, rfl⟩ := kkv_at e
      have hm := List.mem_of_getElem? er
      have rk : Rd H3 kt (.dK (kkv ks)) := .inr ⟨od, sm _ _ upd_same⟩
      have hr' : r.At H1 := (hka r hm).same s1
      have ht : SqT K H3 r.t [.ref r.fa, .ref r.da] := .inl (.inl (sm _ _ (by rw [upd_ne (ne_of hr'.t hk1' (by intro z; cases z))]; exact hr'.t)))
      have hfa : SqT K H3 r.fa (r.fcs.map V.str) := .inl (.inl (sm _ _ (by rw [upd_ne (ne_of hr'.f hk1' (by intro z; cases z))]; exact hr'.f)))
      refine ⟨rfl, .str f.nm, rfl, .ref kt, rfl, .str r.nm, rfl, kt, _, rfl, .inl ⟨kkv ks, .inr r.nm, rk, rfl, (kkv_val hnd hm).symm⟩, r.t, _, 0, _, rfl, rfl, ht, atI_nat (j := 0) rfl, r.fa, _, rfl, .inr hfa, rfl, flat_map _, _, rfl, ?_⟩
      have et : ks.take (i + 1) = ks.take i ++ [r] := by rw [List.take_add_one, er]; rfl
      by_cases hin : f.nm ∈ r.fcs
      · show if (if false = true then !inV (.str f.nm) (r.fcs.map V.str) else inV (.str f.nm) (r.fcs.map V.str)) = true then _ else _
        rw [if_neg (show ¬ (false = true) by decide), inV_strs, decide_eq_true hin, if_pos rfl]
        refine ⟨.ref kt, rfl, .str r.nm, rfl, kt, _, rfl, .inl ⟨kkv ks, .inr r.nm, rk, rfl, (kkv_val hnd hm).symm⟩, r.t, _, 1, _, rfl, rfl, ht, atI_nat (j := 1) rfl, _, e2, ?_, same_upd sm nD, ?_⟩
        · rw [List.length_map]
          have h1 := List.length_filter_le (fun k : KRow => decide (f.nm ∈ k.fcs)) (ks.take i)
          have h2 := List.length_take_le i ks
          exact Nat.lt_of_le_of_lt (show _ ≤ 1000 by omega) (by decide)
        · rw [upd_same, et, List.filter_append, List.map_append]
          rw [List.filter_cons_of_pos (by simpa using hin)]
          rfl
      · show if (if false = true then !inV (.str f.nm) (r.fcs.map V.str) else inV (.str f.nm) (r.fcs.map V.str)) = true then _ else _
        rw [if_neg (show ¬ (false = true) by decide), inV_strs, decide_eq_false hin, if_neg (by decide)]
        refine ⟨sm, ?_⟩
        rw [et, List.filter_append, List.filter_cons_of_neg (by simpa using hin), List.filter_nil, List.append_nil]
        exact e2
    · rintro H2 ⟨sm, e2⟩
      rw [hkl, List.take_length] at e2
      refine ⟨sm _ _ upd_same, ?_⟩
      have nDk : Da ≠ kt := fun z => by rw [z, upd_same] at nD; cases nD
      have s2 : Same H1 (upd H2 kt (.dK (kkv ks))) := same_unlock hk1' sm
      have e3 : (upd H2 kt (.dK (kkv ks))) Da = some (.lst ((ks.filter fun k => decide (f.nm ∈ k.fcs)).map fun k => V.ref k.da)) := by rw [upd_ne nDk]; exact e2
      generalize upd H2 kt (.dK (kkv ks)) = H3 at s2 e3
      have hl : 0 < (ks.filter fun k => decide (f.nm ∈ k.fcs)).length := List.length_pos_of_mem (List.mem_filter.mpr ⟨hk0, decide_eq_true hk1⟩)
      have hle := List.length_filter_le (fun k : KRow => decide (f.nm ∈ k.fcs)) ks
      refine ⟨.ref Da, rfl, Da, _, rfl, .inl (SqL.of e3), _, _, rfl, rfl, true, blT (by rw [List.length_map]; omega), iteT ⟨.ref Da, rfl, Da, rfl, ⟨_, SqL.of e3⟩, fun Db nB => ?_⟩⟩
      refine lc_all (walk_list (xs := (ks.filter fun k => decide (f.nm ∈ k.fcs)).map fun k => V.ref k.da)) (fun i x => ∃ k ∈ ks, f.nm ∈ k.fcs ∧ x = .ref k.da) ?_ (fun H sm => SqL.of (sm _ _ e3)) nB (by rw [List.length_map]; omega) (fun _ => rfl) ?_ ?_
      · rintro i H x H' hi ⟨rfl, e⟩
        rw [List.getElem?_map] at e
        cases h : (ks.filter fun k => decide (f.nm ∈ k.fcs))[i]? with
        | none => rw [h] at e; cases e
        | some k =>
          rw [h] at e
          cases e
          have m := List.mem_filter.mp (List.mem_of_getElem? h)
          exact ⟨rfl, k, m.1, of_decide_eq_true m.2, rfl⟩
      · rintro i x H4 Q4 hi ⟨k, hkm, hkf, rfl⟩ sm4 kk
        have sA : Same H H4 := (s1.trans s2).trans sm4
        exact ⟨.ref k.da, rfl, .ref f.da, rfl, k.da, f.da, k.fds, f.fds, l, 4, rfl, (hka k hkm).d.same sA, hf.same sA, hfn k hkm, ok, by decide, hff k hkm hkf, kk⟩
      · intro H4 sm4 e4
        refine ⟨Db, List.replicate ((ks.filter fun k => decide (f.nm ∈ k.fcs)).map fun k => V.ref k.da).length true, rfl, SqL.of e4, ?_⟩
        rw [all_true]
        exact q _ ((s1.trans s2).trans sm4)
end
end NW
namespace NW
open PySem PySem.Spec PyProof.Rows L2
open TL (tl)
open StX (pa_star)
section
variable {P : Program} {w : World} {K : PySem.W.Frag} {mg : Str → Option Value} {base : Heap}

def spCheck (K : PySem.W.Frag) : Sp := fun vs H Q _ => ∃ (kt ft ut : Addr) (ks : List KRow) (fs : List FRow) (us : List URow) (root : Str), vs = [.ref kt, .ref ft, .ref ut] ∧ SchAt H kt ft ut ks fs us ∧ SchOk ks fs us root ∧ ∀ H', Same H H' → Q .non H'
theorem ok_check_names {f f1 : Addr} {fd fd1 : FuncData} (D : Df K mg "check_names" s_check_names f fd ["kinds", "faces", "unions"]) (D_is_table : Df K mg "is_table" s_is_table f1 fd1 ["table", "least", "most", "taken"]) (T : Nms mg) (C : Cst K mg)
    (G_is_table : FnOk P w K mg base CX0 2 f1 fd1 ["table", "least", "most", "taken"] (spIsTable K)) : FnOk P w K mg base CX0 3 f fd ["kinds", "faces", "unions"] (spCheck K) := by
  obtain ⟨t1, g_MOST_KINDS⟩ := C.MOST_KINDS
  obtain ⟨t2, g_MOST_FACES⟩ := C.MOST_FACES
  obtain ⟨t3, g_MOST_UNIONS⟩ := C.MOST_UNIONS
  obtain ⟨la, g_L, hL⟩ := C.LEAVES
  refine D.F.ok sc_check_names (fun vs H Q E h => ?_) (fun cdv A outer s H vs Q E hr h => ?_)
  · obtain ⟨kt, ft, ut, ks, fs, us, root, rfl, _⟩ := h
    rfl
  · obtain ⟨kt, ft, ut, ks, fs, us, root, rfl, S, ok, q⟩ := h
    refine ⟨_, (pss_cons (ps_if (pt_not (pt_val (pe_call G_is_table (hr.mono (by decide)) (by rfl) D_is_table.g D_is_table.F.kp D_is_table.b .nil pass0 (pa_cons (pv 0) (pa_cons pe_int (pa_cons (pe_glob (v := .int 6) (by rfl) g_MOST_KINDS ⟨_, rfl⟩) (pa_cons (pe_glob (v := .ref la) (by rfl) g_L rfl) pa_nil)))))))
       (pss_one ps_never)
       pss_nil)
      (pss_cons (ps_if (pt_not (pt_val (pe_call G_is_table (hr.mono (by decide)) (by rfl) D_is_table.g D_is_table.F.kp D_is_table.b .nil pass0 (pa_cons (pv 1) (pa_cons pe_int (pa_cons (pe_glob (v := .int 3) (by rfl) g_MOST_FACES ⟨_, rfl⟩) (pa_cons (pe_lst (pa_star (pe_glob (v := .ref la) (by rfl) g_L rfl) (pa_starD rfl (pv 0) pa_nil))) pa_nil)))))))
       (pss_one ps_never)
       pss_nil)
      (pss_one (ps_if (pt_not (pt_val (pe_call G_is_table (hr.mono (by decide)) (by rfl) D_is_table.g D_is_table.F.kp D_is_table.b .nil pass0 (pa_cons (pv 2) (pa_cons pe_int (pa_cons (pe_glob (v := .int 3) (by rfl) g_MOST_UNIONS ⟨_, rfl⟩) (pa_cons (pe_lst (pa_star (pe_glob (v := .ref la) (by rfl) g_L rfl) (pa_starD rfl (pv 0) (pa_starD rfl (pv 1) pa_nil)))) pa_nil)))))))
       (pss_one ps_never)
       pss_nil)))), ?_⟩
    refine ⟨.ref kt, rfl, kt, la, kkv ks, ks.map (·.nm), LV, 1, 6, rfl, S.kd, kkv_keys ks, fun z hz => ⟨?_, ok.lv (List.mem_append_left _ hz)⟩, ?_, ?_, ?_, .inr (hL H), fun H1 s1 => ⟨true, rfl, iteF ?_⟩⟩
    · obtain ⟨k, hk, rfl⟩ := List.mem_map.mp hz
      exact ok.nk k hk
    · rw [List.length_map]; have := ok.k0; omega
    · rw [List.length_map]; have := ok.k1; omega
    · rw [List.length_map]; have := ok.k1; omega
    have S1 := S.same s1
    refine ⟨.ref ft, rfl, la, _, rfl, .inl (hL H1), .ref kt, rfl, kt, kkv ks, rfl, .inl S1.kd, ?_, fun p np => ?_⟩
    · show ([V.str "number", V.str "text"] ++ (dkeys (kkv ks) ++ [])).length ≤ sizeLine
      rw [List.length_append, List.length_append, dkeys_len, show (kkv ks).length = ks.length from List.length_map ..]
      exact Nat.le_trans (show 2 + (ks.length + 0) ≤ 1000 by have := ok.k1; omega) (by decide)
    have el : ([V.str "number", V.str "text"] ++ (dkeys (kkv ks) ++ [])) = (LV ++ ks.map (fun k : KRow => k.nm)).map V.str := by
      rw [dkeys_k, List.append_nil, List.map_append]
      rfl
    refine ⟨ft, p, fkvs fs, fs.map (·.nm), LV ++ ks.map (fun k : KRow => k.nm), 0, 3, rfl, by rw [upd_ne (ne_of_none S1.fd np)]; exact S1.fd, fkvs_keys fs, fun z hz => ⟨?_, ?_⟩, Int.natCast_nonneg _, ?_, ?_, .inl (SqL.of ?_), fun H2 s2 => ⟨true, rfl, iteF ?_⟩⟩
    · obtain ⟨k, hk, rfl⟩ := List.mem_map.mp hz
      exact ok.nf k hk
    · intro m
      rcases List.mem_append.mp m with m | m
      · exact ok.lv (List.mem_append_right _ (List.mem_append_left _ hz)) m
      · exact ok.kfu m (List.mem_append_left _ hz)
    · rw [List.length_map]; have := ok.f1; omega
    · rw [List.length_map]; have := ok.f1; omega
    · rw [← el]
      exact upd_same
    have sm2 : Same H H2 := s1.trans ((same_new np).trans s2)
    have S2 := S.same sm2
    refine ⟨.ref ut, rfl, la, _, rfl, .inl (hL H2), .ref kt, rfl, kt, kkv ks, rfl, .inl S2.kd, .ref ft, rfl, ft, fkvs fs, rfl, .inl S2.fd, ?_, fun p2 np2 => ?_⟩
    · show ([V.str "number", V.str "text"] ++ (dkeys (kkv ks) ++ (dkeys (fkvs fs) ++ []))).length ≤ sizeLine
      rw [List.length_append, List.length_append, List.length_append, dkeys_len, dkeys_len, show (kkv ks).length = ks.length from List.length_map .., show (fkvs fs).length = fs.length from List.length_map ..]
      exact Nat.le_trans (show 2 + (ks.length + (fs.length + 0)) ≤ 1000 by have := ok.k1; have := ok.f1; omega) (by decide)
    have el2 : ([V.str "number", V.str "text"] ++ (dkeys (kkv ks) ++ (dkeys (fkvs fs) ++ []))) = (LV ++ (ks.map (fun k : KRow => k.nm) ++ fs.map (fun k : FRow => k.nm))).map V.str := by
      rw [dkeys_k, dkeys_f, List.append_nil, List.map_append, List.map_append]
      rfl
    refine ⟨ut, p2, ukv us, us.map (·.nm), LV ++ (ks.map (fun k : KRow => k.nm) ++ fs.map (fun k : FRow => k.nm)), 0, 3, rfl, by rw [upd_ne (ne_of_none S2.ud np2)]; exact S2.ud, ukv_keys us, fun z hz => ⟨?_, ?_⟩, Int.natCast_nonneg _, ?_, ?_, .inl (SqL.of ?_), fun H3 s3 => ⟨true, rfl, iteF ?_⟩⟩
    · obtain ⟨k, hk, rfl⟩ := List.mem_map.mp hz
      exact ok.nu k hk
    · intro m
      rcases List.mem_append.mp m with m | m
      · exact ok.lv (List.mem_append_right _ (List.mem_append_right _ hz)) m
      · rcases List.mem_append.mp m with m | m
        · exact ok.kfu m (List.mem_append_right _ hz)
        · exact ok.fu m hz
    · rw [List.length_map]; have := ok.u1; omega
    · rw [List.length_map]; have := ok.u1; omega
    · rw [← el2]
      exact upd_same
    exact q _ (sm2.trans ((same_new np2).trans s3))
def spCheckSchema (K : PySem.W.Frag) : Sp := fun vs H Q _ => ∃ (kt ft ut : Addr) (ks : List KRow) (fs : List FRow) (us : List URow) (root : Str), vs = [.ref kt, .ref ft, .ref ut, .str root] ∧ SchAt H kt ft ut ks fs us ∧ SchOk ks fs us root ∧ ∀ H', Same H H' → Q .non H'
theorem ok_check_schema {f f1 f2 f3 f4 f5 : Addr} {fd fd1 fd2 fd3 fd4 fd5 : FuncData} (D : Df K mg "check_schema" s_check_schema f fd ["kinds", "faces", "unions", "root"]) (D_check_names : Df K mg "check_names" s_check_names f1 fd1 ["kinds", "faces", "unions"])
    (D_is_kind : Df K mg "is_kind" s_is_kind f2 fd2 ["worth", "faces", "bases"]) (D_is_face : Df K mg "is_face" s_is_face f3 fd3 ["name", "fields", "kinds", "bases"]) (D_is_union : Df K mg "is_union" s_is_union f4 fd4 ["worth", "kinds"]) (D_is_key : Df K mg "is_key" s_is_key f5 fd5 ["name", "table"])
    (T : Nms mg) (C : Cst K mg) (G_check_names : FnOk P w K mg base CX0 3 f1 fd1 ["kinds", "faces", "unions"] (spCheck K)) (G_is_kind : FnOk P w K mg base CX0 7 f2 fd2 ["worth", "faces", "bases"] (spIsKind K))
    (G_is_face : FnOk P w K mg base CX0 7 f3 fd3 ["name", "fields", "kinds", "bases"] (spIsFace K)) (G_is_union : FnOk P w K mg base CX0 3 f4 fd4 ["worth", "kinds"] spIsUnion) (G_is_key : FnOk P w K mg base CX0 1 f5 fd5 ["name", "table"] (spIsKey K)) :
    FnOk P w K mg base CX0 8 f fd ["kinds", "faces", "unions", "root"] (spCheckSchema K) := by
  obtain ⟨la, g_L, hL⟩ := C.LEAVES
  refine D.F.ok sc_check_schema (fun vs H Q E h => ?_) (fun cdv A outer s H vs Q E hr h => ?_)
  · obtain ⟨kt, ft, ut, ks, fs, us, root, rfl, _⟩ := h
    rfl
  · obtain ⟨kt, ft, ut, ks, fs, us, root, rfl, S, ok, q⟩ := h
    have hu := hu_of hr
    refine ⟨_, (pss_cons (ps_expr (pe_call G_check_names (hr.mono (by decide)) (by rfl) D_check_names.g D_check_names.F.kp D_check_names.b .nil pass0 (pa_cons (pv 0) (pa_cons (pv 1) (pa_cons (pv 2) pa_nil)))))
      (pss_cons (ps_set (i := 4) sc_check_schema.nd rfl (.inl rfl) (pe_lst (pa_star (pe_glob (v := .ref la) (by rfl) g_L rfl) (pa_starD rfl (pv 0) (pa_starD rfl (pv 1) (pa_starD rfl (pv 2) pa_nil))))))
      (pss_cons (ps_for PassesOwn.never rfl (pi_list (pe_callB (call_sortedD rfl) (by rfl) T.n_sorted (by decide +kernel) (pa_cons (pv 0) pa_nil))) (pg_name (i := 5) sc_check_schema.nd rfl (.inl rfl))
       (pss_one (ps_if (pt_not (pt_val (pe_call G_is_kind (hr.mono (by decide)) (by rfl) D_is_kind.g D_is_kind.F.kp D_is_kind.b .nil pass0 (pa_cons (pe_dget hu (pv 0) (pv 5) (fun _ _ => rfl)) (pa_cons (pv 1) (pa_cons (pv 4) pa_nil))))))
         (pss_one ps_never)
         pss_nil)))
      (pss_cons (ps_for PassesOwn.never rfl (pi_list (pe_callB (call_sortedD rfl) (by rfl) T.n_sorted (by decide +kernel) (pa_cons (pv 1) pa_nil))) (pg_name (i := 5) sc_check_schema.nd rfl (.inl rfl))
       (pss_one (ps_if (pt_not (pt_val (pe_call G_is_face (hr.mono (by decide)) (by rfl) D_is_face.g D_is_face.F.kp D_is_face.b .nil pass0 (pa_cons (pv 5) (pa_cons (pe_dget hu (pv 1) (pv 5) (fun _ _ => rfl)) (pa_cons (pv 0) (pa_cons (pv 4) pa_nil)))))))
         (pss_one ps_never)
         pss_nil)))
      (pss_cons (ps_for PassesOwn.never rfl (pi_list (pe_callB (call_sortedD rfl) (by rfl) T.n_sorted (by decide +kernel) (pa_cons (pv 2) pa_nil))) (pg_name (i := 5) sc_check_schema.nd rfl (.inl rfl))
       (pss_one (ps_if (pt_not (pt_val (pe_call G_is_union (hr.mono (by decide)) (by rfl) D_is_union.g D_is_union.F.kp D_is_union.b .nil pass0 (pa_cons (pe_dget hu (pv 2) (pv 5) (fun _ _ => rfl)) (pa_cons (pv 0) pa_nil)))))
         (pss_one ps_never)
         pss_nil)))
      (pss_one (ps_if (pt_not (pt_val (pe_call G_is_key (hr.mono (by decide)) (by rfl) D_is_key.g D_is_key.F.kp D_is_key.b .nil pass0 (pa_cons (pv 3) (pa_cons (pv 0) pa_nil)))))
       (pss_one ps_never)
       pss_nil))))))), ?_⟩
    refine ⟨.ref kt, rfl, .ref ft, rfl, .ref ut, rfl, kt, ft, ut, ks, fs, us, root, rfl, S, ok, fun H1 s1 => ?_⟩
    have S1 := S.same s1
    have k1 := ok.k1
    have f1' := ok.f1
    have u1' := ok.u1
    refine ⟨la, _, rfl, .inl (hL H1), .ref kt, rfl, kt, kkv ks, rfl, .inl S1.kd, .ref ft, rfl, ft, fkvs fs, rfl, .inl S1.fd, .ref ut, rfl, ut, ukv us, rfl, .inl S1.ud, ?_, fun bs nb => ?_⟩
    · show ([V.str "number", V.str "text"] ++ (dkeys (kkv ks) ++ (dkeys (fkvs fs) ++ (dkeys (ukv us) ++ [])))).length ≤ sizeLine
      rw [List.length_append, List.length_append, List.length_append, List.length_append, dkeys_len, dkeys_len, dkeys_len, show (kkv ks).length = ks.length from List.length_map .., show (fkvs fs).length = fs.length from List.length_map .., show (ukv us).length = us.length from List.length_map ..]
      exact Nat.le_trans (show 2 + (ks.length + (fs.length + (us.length + 0))) ≤ 1000 by omega) (by decide)
    have el : ([V.str "number", V.str "text"] ++ (dkeys (kkv ks) ++ (dkeys (fkvs fs) ++ (dkeys (ukv us) ++ [])))) = (bsOf ks fs us).map V.str := by
      rw [dkeys_k, dkeys_f, dkeys_u]
      unfold bsOf
      rw [List.append_nil, List.map_append, List.map_append, List.map_append]
      rfl
    have sm2 : Same H (upd H1 bs (.lst ([V.str "number", V.str "text"] ++ (dkeys (kkv ks) ++ (dkeys (fkvs fs) ++ (dkeys (ukv us) ++ [])))))) := s1.trans (same_new nb)
    have hb2 : (upd H1 bs (.lst ([V.str "number", V.str "text"] ++ (dkeys (kkv ks) ++ (dkeys (fkvs fs) ++ (dkeys (ukv us) ++ [])))))) bs = some (.lst ((bsOf ks fs us).map V.str)) := by rw [← el]; exact upd_same
    generalize upd H1 bs (.lst ([V.str "number", V.str "text"] ++ (dkeys (kkv ks) ++ (dkeys (fkvs fs) ++ (dkeys (ukv us) ++ []))))) = H2 at sm2 hb2
    -- kinds
    refine ⟨.ref kt, rfl, kt, kkv ks, ks.map (·.nm), rfl, .inl (sm2 _ _ S.kd), kkv_keys ks, by rw [List.length_map]; omega, fun ys p pm so np => ⟨p, rfl, ⟨_, SqL.of upd_same⟩, ?_⟩⟩
    refine for_list (xs := ys.map V.str) (fun i σ H' => ∃ y, σ = [some (.ref kt), some (.ref ft), some (.ref ut), some (.str root), some (.ref bs), y] ∧ Same (upd H2 p (.lst (ys.map V.str))) H') ⟨none, rfl, Same.refl _⟩ (fun i σ H' _ h => by obtain ⟨y, _, sm⟩ := h; exact SqL.of (sm _ _ upd_same)) ?_ ?_
    · rintro i x σ H3 ex ⟨y, rfl, sm⟩
      obtain ⟨z, hz, rfl⟩ := List.mem_map.mp (List.mem_of_getElem? ex)
      obtain ⟨k, hk, rfl⟩ := List.mem_map.mp (pm.mem_iff.mp hz)
      have smA : Same H H3 := (sm2.trans (same_new np)).trans sm
      have S3 := S.same smA
      refine ⟨.ref kt, rfl, .str k.nm, rfl, kt, _, rfl, .inl ⟨kkv ks, .inr k.nm, .inl S3.kd, rfl, (kkv_val ok.ndk hk).symm⟩, .ref ft, rfl, .ref bs, rfl, k, ft, bs, fkvs fs, bsOf ks fs us, rfl, S3.ka k hk, S3.fd, (ok.kf k hk).1, by have := (ok.kf k hk).2.2; omega, fun z hz => fkvs_some ok.ndf ((ok.kf k hk).2.1 z hz), ok.kd k hk, SqL.of (((same_new np).trans sm) _ _ hb2), fun H4 s4 => ⟨true, rfl, iteF ⟨_, rfl, sm.trans s4⟩⟩⟩
    · rintro σ H3 ⟨y, rfl, sm⟩
      have sm3 : Same H2 H3 := (same_new np).trans sm
      have S3 := S.same (sm2.trans sm3)
      -- faces
      refine ⟨.ref ft, rfl, ft, fkvs fs, fs.map (·.nm), rfl, .inl S3.fd, fkvs_keys fs, by rw [List.length_map]; omega, fun ys p pm so np => ⟨p, rfl, ⟨_, SqL.of upd_same⟩, ?_⟩⟩
      refine for_list (xs := ys.map V.str) (fun i σ H' => ∃ y, σ = [some (.ref kt), some (.ref ft), some (.ref ut), some (.str root), some (.ref bs), y] ∧ Same (upd H3 p (.lst (ys.map V.str))) H') ⟨y, rfl, Same.refl _⟩ (fun i σ H' _ h => by obtain ⟨y, _, sm⟩ := h; exact SqL.of (sm _ _ upd_same)) ?_ ?_
      · rintro i x σ H4 ex ⟨y, rfl, sm⟩
        obtain ⟨z, hz, rfl⟩ := List.mem_map.mp (List.mem_of_getElem? ex)
        obtain ⟨k, hk, rfl⟩ := List.mem_map.mp (pm.mem_iff.mp hz)
        have smA : Same H H4 := ((sm2.trans sm3).trans (same_new np)).trans sm
        have S4 := S.same smA
        refine ⟨.str k.nm, rfl, .ref ft, rfl, .str k.nm, rfl, ft, _, rfl, .inl ⟨fkvs fs, .inr k.nm, .inl S4.fd, rfl, (fkvs_val ok.ndf hk).symm⟩, .ref kt, rfl, .ref bs, rfl, kt, bs, k, ks, bsOf ks fs us, rfl, S4.fa k hk, ok.fd k hk, S4.kd, S4.ka, ok.ndk, ok.k1, fun k' hk' => (ok.kd k' hk').nd, ok.fk k hk, ok.ff k hk, SqL.of (((sm3.trans (same_new np)).trans sm) _ _ hb2), fun H5 s5 => ⟨true, rfl, iteF ⟨_, rfl, sm.trans s5⟩⟩⟩
      · rintro σ H4 ⟨y, rfl, sm⟩
        have sm4 : Same H3 H4 := (same_new np).trans sm
        have S4 := S.same ((sm2.trans sm3).trans sm4)
        -- unions
        refine ⟨.ref ut, rfl, ut, ukv us, us.map (·.nm), rfl, .inl S4.ud, ukv_keys us, by rw [List.length_map]; omega, fun ys p pm so np => ⟨p, rfl, ⟨_, SqL.of upd_same⟩, ?_⟩⟩
        refine for_list (xs := ys.map V.str) (fun i σ H' => ∃ y, σ = [some (.ref kt), some (.ref ft), some (.ref ut), some (.str root), some (.ref bs), y] ∧ Same (upd H4 p (.lst (ys.map V.str))) H') ⟨y, rfl, Same.refl _⟩ (fun i σ H' _ h => by obtain ⟨y, _, sm⟩ := h; exact SqL.of (sm _ _ upd_same)) ?_ ?_
        · rintro i x σ H5 ex ⟨y, rfl, sm⟩
          obtain ⟨z, hz, rfl⟩ := List.mem_map.mp (List.mem_of_getElem? ex)
          obtain ⟨k, hk, rfl⟩ := List.mem_map.mp (pm.mem_iff.mp hz)
          have smA : Same H H5 := (((sm2.trans sm3).trans sm4).trans (same_new np)).trans sm
          have S5 := S.same smA
          obtain ⟨n1, n2, n3, n4⟩ := ok.ud k hk
          refine ⟨.ref ut, rfl, .str k.nm, rfl, ut, _, rfl, .inl ⟨ukv us, .inr k.nm, .inl S5.ud, rfl, (ukv_val ok.ndu hk).symm⟩, .ref kt, rfl, k.t, kt, kkv ks, k.ms, rfl, S5.ua k hk, S5.kd, n1, n2, n3, fun z hz => kkv_some ok.ndk (n4 z hz), fun H6 s6 => ⟨true, rfl, iteF ⟨_, rfl, sm.trans s6⟩⟩⟩
        · rintro σ H5 ⟨y, rfl, sm⟩
          have smA : Same H H5 := (((sm2.trans sm3).trans sm4).trans (same_new np)).trans sm
          have S5 := S.same smA
          refine ⟨.str root, rfl, .ref kt, rfl, .str root, kt, rfl, .inl ⟨root, rfl, .inr ⟨kkv ks, .inl S5.kd, true, ?_, iteF (q _ smA)⟩⟩⟩
          rw [kkv_some ok.ndk ok.rt]
end
end NW
namespace NW
open PySem PySem.Spec PyProof.Rows L2
open TL (tl)
open StX (pa_star)
abbrev s_Schema_init : Stmt := inClass (topS 35) 0
abbrev N_Schema_init : List Str := ["self", "kinds", "faces", "unions", "root", "name"]
theorem sc_Schema_init : FnScope N_Schema_init ["self", "kinds", "faces", "unions", "root"] (defScope s_Schema_init) := ⟨rfl, rfl, rfl, by decide +kernel, rfl, by decide +kernel, by decide +kernel⟩
/-! ### a Schema in the heap -/
structure ClT (K : PySem.W.Frag) (C : Addr) : Prop where
  cl : Cls K C
  nk : NoAttr K C "kind_table"
  nf : NoAttr K C "face_table"
  nu : NoAttr K C "union_table"
  nr : NoAttr K C "root"
theorem n1 : ¬ (("face_table" : Str) = "kind_table") := by decide +kernel
theorem n2 : ¬ (("union_table" : Str) = "kind_table") := by decide +kernel
theorem n3 : ¬ (("root" : Str) = "kind_table") := by decide +kernel
theorem n4 : ¬ (("union_table" : Str) = "face_table") := by decide +kernel
theorem n5 : ¬ (("root" : Str) = "face_table") := by decide +kernel
theorem n6 : ¬ (("root" : Str) = "union_table") := by decide +kernel
def pfs (a b c : Addr) (z : Str) : List (Str × V) := [("kind_table", V.ref a), ("face_table", V.ref b), ("union_table", V.ref c), ("root", V.str z)]
theorem pf1 (a : Addr) : putF "kind_table" (.ref a) [] = [(("kind_table" : Str), V.ref a)] := rfl
theorem pf2 (a b : Addr) : putF "face_table" (.ref b) [(("kind_table" : Str), V.ref a)] = [(("kind_table" : Str), V.ref a), ("face_table", V.ref b)] := by
  show (if ("kind_table" : Str) = "face_table" then _ else _) = _
  rw [if_neg (fun e => n1 e.symm)]
  rfl
theorem pf3 (a b c : Addr) : putF "union_table" (.ref c) [(("kind_table" : Str), V.ref a), ("face_table", V.ref b)] = [(("kind_table" : Str), V.ref a), ("face_table", V.ref b), ("union_table", V.ref c)] := by
  show (if ("kind_table" : Str) = "union_table" then _ else _ :: (if ("face_table" : Str) = "union_table" then _ else _)) = _
  rw [if_neg (fun e => n2 e.symm), if_neg (fun e => n4 e.symm)]
  rfl
theorem pf4 (a b c : Addr) (z : Str) : putF "root" (.str z) [(("kind_table" : Str), V.ref a), ("face_table", V.ref b), ("union_table", V.ref c)] = pfs a b c z := by
  show (if ("kind_table" : Str) = "root" then _ else _ :: (if ("face_table" : Str) = "root" then _ else _ :: (if ("union_table" : Str) = "root" then _ else _))) = _
  rw [if_neg (fun e => n3 e.symm), if_neg (fun e => n5 e.symm), if_neg (fun e => n6 e.symm)]
  rfl
theorem lkk (a b c : Addr) (z : Str) : (pfs a b c z).lookup ("kind_table" : Str) = some (.ref a) := by simp [pfs, List.lookup]
theorem lkf (a b c : Addr) (z : Str) : (pfs a b c z).lookup ("face_table" : Str) = some (.ref b) := by
  have h1 : (("face_table" : Str) == "kind_table") = false := beq_eq_false_iff_ne.mpr n1
  simp [pfs, List.lookup, h1]
theorem lku (a b c : Addr) (z : Str) : (pfs a b c z).lookup ("union_table" : Str) = some (.ref c) := by
  have h1 : (("union_table" : Str) == "kind_table") = false := beq_eq_false_iff_ne.mpr n2
  have h2 : (("union_table" : Str) == "face_table") = false := beq_eq_false_iff_ne.mpr n4
  simp [pfs, List.lookup, h1, h2]
theorem lkr (a b c : Addr) (z : Str) : (pfs a b c z).lookup ("root" : Str) = some (.str z) := by
  have h1 : (("root" : Str) == "kind_table") = false := beq_eq_false_iff_ne.mpr n3
  have h2 : (("root" : Str) == "face_table") = false := beq_eq_false_iff_ne.mpr n5
  have h3 : (("root" : Str) == "union_table") = false := beq_eq_false_iff_ne.mpr n6
  simp [pfs, List.lookup, h1, h2, h3]
theorem lkn (a b c : Addr) (z : Str) {m : Str} (h1 : ¬ m = "kind_table") (h2 : ¬ m = "face_table") (h3 : ¬ m = "union_table") (h4 : ¬ m = "root") : (pfs a b c z).lookup m = none := by
  have e1 := beq_eq_false_iff_ne.mpr h1
  have e2 := beq_eq_false_iff_ne.mpr h2
  have e3 := beq_eq_false_iff_ne.mpr h3
  have e4 := beq_eq_false_iff_ne.mpr h4
  simp [pfs, List.lookup, e1, e2, e3, e4]
/-- what the made tables hold of what was handed in -/
def RelK (ks ks' : List KRow) : Prop := ks'.length = ks.length ∧ ∀ (i : Nat) (k k' : KRow), ks[i]? = some k → ks'[i]? = some k' → k'.nm = k.nm ∧ k'.fcs.Perm k.fcs ∧ sortedS k'.fcs = true ∧ k'.fds = k.fds
def RelF (ks ks' : List FRow) : Prop := ks'.length = ks.length ∧ ∀ (i : Nat) (k k' : FRow), ks[i]? = some k → ks'[i]? = some k' → k'.nm = k.nm ∧ k'.fds = k.fds
def RelU (ks ks' : List URow) : Prop := ks'.length = ks.length ∧ ∀ (i : Nat) (k k' : URow), ks[i]? = some k → ks'[i]? = some k' → k'.nm = k.nm ∧ k'.ms.Perm k.ms ∧ sortedS k'.ms = true
def BuiltAt (C : Addr) (H : Hp) (x : Addr) (ks : List KRow) (fs : List FRow) (us : List URow) (root : Str) : Prop :=
  ∃ dx kt ft ut ks' fs' us', H x = some (.ins C dx (pfs kt ft ut root)) ∧ SchAt H kt ft ut ks' fs' us' ∧ RelK ks ks' ∧ RelF fs fs' ∧ RelU us us'
theorem rel_snoc {α : Type} {ks rs : List α} {R : α → α → Prop} {i : Nat} {k r : α} (e : ks[i]? = some k) (hl : rs.length = i) (h : ∀ (j : Nat) (a b : α), ks[j]? = some a → rs[j]? = some b → R a b) (hr : R k r) : ∀ (j : Nat) (a b : α), ks[j]? = some a → (rs ++ [r])[j]? = some b → R a b := by
  intro j a b ea eb
  by_cases hj : j < rs.length
  · rw [List.getElem?_append_left hj] at eb
    exact h j a b ea eb
  · have hj2 : j = i := by
      have := (List.getElem?_eq_some_iff.mp eb).1
      rw [List.length_append, List.length_singleton] at this
      omega
    subst hj2
    rw [List.getElem?_append_right (by omega), hl, Nat.sub_self] at eb
    cases eb
    rw [e] at ea
    cases ea
    exact hr
theorem rel_names {α : Type} {f : α → Str} {ks rs : List α} {i : Nat} (hl : rs.length = i) (hi : i ≤ ks.length) (h : ∀ (j : Nat) (a b : α), ks[j]? = some a → rs[j]? = some b → f b = f a) : rs.map f = (ks.take i).map f := by
  refine List.ext_getElem? fun j => ?_
  rw [List.getElem?_map, List.getElem?_map]
  by_cases hj : j < i
  · have h1 : j < rs.length := by omega
    have h2 : j < ks.length := by omega
    rw [List.getElem?_eq_getElem h1, List.getElem?_take_of_lt hj, List.getElem?_eq_getElem h2]
    show some (f rs[j]) = some (f ks[j])
    rw [h j _ _ (List.getElem?_eq_getElem h2) (List.getElem?_eq_getElem h1)]
  · rw [List.getElem?_eq_none (by omega), List.getElem?_eq_none (by rw [List.length_take]; omega)]
theorem name_new {α : Type} {f : α → Str} {ks : List α} (nd : (ks.map f).Nodup) {i : Nat} {k : α} (e : ks[i]? = some k) : f k ∉ (ks.take i).map f := by
  intro m
  obtain ⟨a, ha, ea⟩ := List.mem_map.mp m
  obtain ⟨j, hj, ej⟩ := List.getElem_of_mem ha
  rw [List.length_take] at hj
  rw [List.getElem_take] at ej
  have hi := (List.getElem?_eq_some_iff.mp e)
  obtain ⟨hi1, hi2⟩ := hi
  have h1 : (ks.map f)[j]'(by rw [List.length_map]; omega) = (ks.map f)[i]'(by rw [List.length_map]; omega) := by
    rw [List.getElem_map, List.getElem_map, ej, hi2, ea]
  have := (List.getElem_inj nd).mp h1
  omega
theorem put_snoc {α : Type} {f : α → Str} {g : α → V} {rs : List α} {r : α} (h : f r ∉ rs.map f) : putK (rs.map fun a => ((Sum.inr (f a) : Key), g a)) (Sum.inr (f r)) (g r) = (rs ++ [r]).map fun a => ((Sum.inr (f a) : Key), g a) := by
  rw [putK_new _ (valV_out h), List.map_append]
  rfl
theorem KRow.At.put {H : Hp} {k : KRow} {Da : Addr} {kvs : List (Key × V)} {o : HO} (hD : H Da = some (.dK kvs)) (n : k.da ≠ Da) (h : k.At H) : k.At (upd H Da o) :=
  ⟨by rw [upd_ne (ne_of h.t hD (by intro z; cases z))]; exact h.t, by rw [upd_ne (ne_of h.f hD (by intro z; cases z))]; exact h.f, by rw [upd_ne n]; exact h.d.at_, fun f m => (h.d.sh f m).gr (xs := []) (.inr ⟨_, hD⟩) Gr.box⟩
theorem FldAt.put {H : Hp} {d : Addr} {fs : List Fld} {Da : Addr} {kvs : List (Key × V)} {o : HO} (hD : H Da = some (.dK kvs)) (n : d ≠ Da) (h : FldAt H d fs) : FldAt (upd H Da o) d fs :=
  ⟨by rw [upd_ne n]; exact h.at_, fun f m => (h.sh f m).gr (xs := []) (.inr ⟨_, hD⟩) Gr.box⟩
theorem Oth.frz {H : Hp} {b : Addr} {o : Obj} {u : HO} (h : H b = some (.frz o u)) : Oth H b := ⟨_, h, (by intro _ z; cases z), (by intro _ z; cases z)⟩
theorem gr_x {H H' : Hp} {x : Addr} (s : Same H H') : Gr x H H' := fun a o _ e => s a o e
theorem fkvs_at {fs : List FRow} {i : Nat} {k : Key} {v : V} (e : (fkvs fs)[i]? = some (k, v)) : ∃ r, fs[i]? = some r ∧ k = Sum.inr r.nm ∧ v = .ref r.da := by
  unfold fkvs at e
  rw [List.getElem?_map] at e
  cases h : fs[i]? with
  | none => rw [h] at e; cases e
  | some f =>
    rw [h] at e
    cases e
    exact ⟨f, rfl, rfl, rfl⟩
theorem ukv_at {us : List URow} {i : Nat} {k : Key} {v : V} (e : (ukv us)[i]? = some (k, v)) : ∃ r, us[i]? = some r ∧ k = Sum.inr r.nm ∧ v = .ref r.t := by
  unfold ukv at e
  rw [List.getElem?_map] at e
  cases h : us[i]? with
  | none => rw [h] at e; cases e
  | some f =>
    rw [h] at e
    cases e
    exact ⟨f, rfl, rfl, rfl⟩
section
variable {P : Program} {w : World} {K : PySem.W.Frag} {mg : Str → Option Value} {base : Heap}

def spInit (C : Addr) : Sp := fun vs H Q _ => ∃ (x dx kt ft ut : Addr) (ks : List KRow) (fs : List FRow) (us : List URow) (root : Str), vs = [.ref x, .ref kt, .ref ft, .ref ut, .str root] ∧ H x = some (.ins C dx []) ∧ SchAt H kt ft ut ks fs us ∧ SchOk ks fs us root ∧
  ∀ H', Gr x H H' → BuiltAt C H' x ks fs us root → Q .non H'
theorem ok_init {f f1 C : Addr} {fd fd1 : FuncData} (F : Fun K "__init__" "Schema.__init__" s_Schema_init f fd) (D_check_schema : Df K mg "check_schema" s_check_schema f1 fd1 ["kinds", "faces", "unions", "root"]) (T : Nms mg) (L : ClT K C)
    (G_check_schema : FnOk P w K mg base CX0 8 f1 fd1 ["kinds", "faces", "unions", "root"] (spCheckSchema K)) : FnOk P w K mg base CX0 9 f fd ["self", "kinds", "faces", "unions", "root"] (spInit C) := by
  refine F.ok sc_Schema_init (fun vs H Q E h => ?_) (fun cdv A outer s H vs Q E hr h => ?_)
  · obtain ⟨x, dx, kt, ft, ut, ks, fs, us, root, rfl, _⟩ := h
    rfl
  · obtain ⟨x, dx, kt, ft, ut, ks, fs, us, root, rfl, hx, S, ok, q⟩ := h
    have hu := hu_of hr
    refine ⟨_, (pss_cons (ps_expr (pe_call G_check_schema (hr.mono (by decide)) (by rfl) D_check_schema.g D_check_schema.F.kp D_check_schema.b .nil pass0 (pa_cons (pv 1) (pa_cons (pv 2) (pa_cons (pv 3) (pa_cons (pv 4) pa_nil))))))
      (pss_cons (ps_fld (pv 0) (pe_lock (pe_dc (own := [("name", 5)]) (g := (gName 5)) (tt := tYes) rfl sc_Schema_init.nd (pi_keys (pv 1)) (blkOk_by (own := [("name", 5)]) (N := N_Schema_init) (sc := defScope s_Schema_init) (by decide +kernel)) (fun _ _ _ _ _ => (pg_name (i := 5) sc_Schema_init.nd rfl (.inl rfl))) (fun _ _ _ _ _ => pts_nil) (fun _ _ _ _ _ => (pv 5)) (fun _ _ _ _ _ => (pe_tup (pa_cons (pe_callTy (call_tuple_ofK K) (by rfl) T.n_tuple (by decide +kernel) (pa_cons (pe_callB (call_sortedTup K) (by rfl) T.n_sorted (by decide +kernel) (pa_cons (pe_ix (ix_tupK K) (pe_dget hu (pv 1) (pv 5) (fun _ _ => rfl)) pe_int (fun _ _ => rfl)) pa_nil)) pa_nil)) (pa_cons (pe_callTy call_dictD (by rfl) T.n_dict (by decide +kernel) (pa_cons (pe_ix (ix_tupK K) (pe_dget hu (pv 1) (pv 5) (fun _ _ => rfl)) pe_int (fun _ _ => rfl)) pa_nil)) pa_nil)))))) rfl)
      (pss_cons (ps_fld (pv 0) (pe_lock (pe_dc (own := [("name", 5)]) (g := (gName 5)) (tt := tYes) rfl sc_Schema_init.nd (pi_keys (pv 2)) (blkOk_by (own := [("name", 5)]) (N := N_Schema_init) (sc := defScope s_Schema_init) (by decide +kernel)) (fun _ _ _ _ _ => (pg_name (i := 5) sc_Schema_init.nd rfl (.inl rfl))) (fun _ _ _ _ _ => pts_nil) (fun _ _ _ _ _ => (pv 5)) (fun _ _ _ _ _ => (pe_callTy call_dictD (by rfl) T.n_dict (by decide +kernel) (pa_cons (pe_dget hu (pv 2) (pv 5) (fun _ _ => rfl)) pa_nil))))) rfl)
      (pss_cons (ps_fld (pv 0) (pe_lock (pe_dc (own := [("name", 5)]) (g := (gName 5)) (tt := tYes) rfl sc_Schema_init.nd (pi_keys (pv 3)) (blkOk_by (own := [("name", 5)]) (N := N_Schema_init) (sc := defScope s_Schema_init) (by decide +kernel)) (fun _ _ _ _ _ => (pg_name (i := 5) sc_Schema_init.nd rfl (.inl rfl))) (fun _ _ _ _ _ => pts_nil) (fun _ _ _ _ _ => (pv 5)) (fun _ _ _ _ _ => (pe_callTy (call_tuple_ofK K) (by rfl) T.n_tuple (by decide +kernel) (pa_cons (pe_callB (call_sortedTup K) (by rfl) T.n_sorted (by decide +kernel) (pa_cons (pe_dget hu (pv 3) (pv 5) (fun _ _ => rfl)) pa_nil)) pa_nil))))) rfl)
      (pss_one (ps_fld (pv 0) (pv 4) rfl)))))), ?_⟩
    refine ⟨.ref kt, rfl, .ref ft, rfl, .ref ut, rfl, .str root, rfl, kt, ft, ut, ks, fs, us, root, rfl, S, ok, fun H1 s1 => ?_⟩
    have k1 := ok.k1
    have f1' := ok.f1
    have u1' := ok.u1
    have S1 := S.same s1
    have hx1 := s1 _ _ hx
    -- kind_table
    refine ⟨kt, .dK (kkv ks), S1.kd, trivial, fun od => ⟨.ref kt, rfl, kt, od, rfl, .inl ⟨kkv ks, upd_same, fun Da nD => ?_⟩⟩⟩
    have hkl : (kkv ks).length = ks.length := List.length_map ..
    refine dc_it walk_keys (fun i H' => Same (upd H1 kt (.frz od (.dK (kkv ks)))) H' ∧ ∃ rs : List KRow, rs.length = i ∧ (∀ (j : Nat) (a b : KRow), ks[j]? = some a → rs[j]? = some b → b.nm = a.nm ∧ b.fcs.Perm a.fcs ∧ sortedS b.fcs = true ∧ b.fds = a.fds) ∧ (∀ r ∈ rs, r.At H' ∧ r.da ≠ Da) ∧ H' Da = some (.dK (kkv rs)))
      ⟨same_new nD, [], rfl, (fun j a b _ e => by simp at e), (fun r m => by cases m), upd_same⟩ (fun i H _ p => p.1 _ _ upd_same) ?_ ?_
    · rintro i y H2 H3 hi ⟨sm, rs, hl, hrel, hat, eD⟩ ⟨rfl, k, v, e, rfl⟩
      obtain ⟨k, er, rfl, rfl⟩ := kkv_at e
      have hm := List.mem_of_getElem? er
      have rk : Rd H3 kt (.dK (kkv ks)) := .inr ⟨od, sm _ _ upd_same⟩
      have hk1 := S1.ka k hm
      have gl : Gr kt H1 (upd H1 kt (.frz od (.dK (kkv ks)))) := Gr.box
      have ht : H3 k.t = some (.tup [.ref k.fa, .ref k.da]) := sm _ _ (by rw [upd_ne (ne_of hk1.t S1.kd (by intro z; cases z))]; exact hk1.t)
      have hfa : H3 k.fa = some (.tup (k.fcs.map V.str)) := sm _ _ (by rw [upd_ne (ne_of hk1.f S1.kd (by intro z; cases z))]; exact hk1.f)
      have hda : Rd H3 k.da (.dK (fkv k.fds)) := rd_same sm (rd_put S1.kd hk1.d.at_)
      have hsh : ∀ f ∈ k.fds, ShAt H3 f.2.1 f.2.2 := fun f m => ((hk1.d.sh f m).gr (xs := []) (.inr ⟨_, S1.kd⟩) Gr.box).same sm
      have few := (ok.kf k hm).2.2
      refine ⟨rfl, lcT ⟨.str k.nm, rfl, .ref kt, rfl, .str k.nm, rfl, kt, _, rfl, .inl ⟨kkv ks, .inr k.nm, rk, rfl, (kkv_val ok.ndk hm).symm⟩, k.t, _, 0, _, rfl, rfl, .inl (.inl ht), atI_nat (j := 0) rfl, k.fa, k.fcs, rfl, .inl (.inl hfa), by omega, fun ys p pm so np => ⟨p, _, rfl, .inl ⟨SqL.of upd_same, fun l nl => ?_⟩⟩⟩⟩
      have s4 : Same H3 (upd (upd H3 p (.lst (ys.map V.str))) l (.tup (ys.map V.str))) := (same_new np).trans (same_new nl)
      have el : (upd (upd H3 p (.lst (ys.map V.str))) l (.tup (ys.map V.str))) l = some (.tup (ys.map V.str)) := upd_same
      generalize upd (upd H3 p (.lst (ys.map V.str))) l (.tup (ys.map V.str)) = H4 at s4 el
      refine ⟨.ref kt, rfl, .str k.nm, rfl, kt, _, rfl, .inl ⟨kkv ks, .inr k.nm, rd_same s4 rk, rfl, (kkv_val ok.ndk hm).symm⟩, k.t, _, 1, _, rfl, rfl, .inl (.inl (s4 _ _ ht)), atI_nat (j := 1) rfl, k.da, fkv k.fds, rfl, rd_same s4 hda, fun d nd => ?_⟩
      refine ⟨by show 2 ≤ sizeLine; decide, fun t nt => ?_⟩
      have s5 : Same H3 (upd (upd H4 d (.dK (fkv k.fds))) t (.tup [.ref l, .ref d])) := (s4.trans (same_new nd)).trans (same_new nt)
      have eD5 := s5 _ _ eD
      have ndD : d ≠ Da := (ne_of_none (s4 _ _ eD) nd).symm
      have at5 : (KRow.mk k.nm t l d ys k.fds).At (upd (upd H4 d (.dK (fkv k.fds))) t (.tup [.ref l, .ref d])) :=
        ⟨upd_same, (((same_new nd).trans (same_new nt)) _ _ el), (by rw [upd_ne (ne_of_none (upd_same) nt)]; exact upd_same), fun f m => (hsh f m).same s5⟩
      refine ⟨kkv rs, .inr k.nm, rfl, eD5, ?_, same_upd (sm.trans s5) nD, rs ++ [KRow.mk k.nm t l d ys k.fds], ?_, ?_, ?_, ?_⟩
      · rw [show (kkv rs).length = rs.length from List.length_map ..]
        exact Nat.lt_of_le_of_lt (show rs.length ≤ 1000 by omega) (by decide)
      · rw [List.length_append, hl]; rfl
      · exact rel_snoc er hl hrel ⟨rfl, pm, so, rfl⟩
      · intro r hr
        rcases List.mem_append.mp hr with hr | hr
        · exact ⟨((hat r hr).1.same s5).put eD5 (hat r hr).2, (hat r hr).2⟩
        · obtain rfl := List.mem_singleton.mp hr
          exact ⟨at5.put eD5 ndD, ndD⟩
      · rw [upd_same]
        have hn : k.nm ∉ rs.map (fun k : KRow => k.nm) := by
          rw [rel_names (f := fun k : KRow => k.nm) hl (by omega) (fun j a b ea eb => (hrel j a b ea eb).1)]
          exact name_new ok.ndk er
        exact congrArg (fun z => some (HO.dK z)) (put_snoc (f := fun k : KRow => k.nm) (g := fun k => V.ref k.t) (r := KRow.mk k.nm t l d ys k.fds) hn)
    · rintro H2 ⟨sm, rs, hl, hrel, hat, eD⟩
      refine ⟨sm _ _ upd_same, ?_⟩
      have nDk : Da ≠ kt := fun z => by rw [z, upd_same] at nD; cases nD
      have su : Same H1 (upd H2 kt (.dK (kkv ks))) := same_unlock S1.kd sm
      have eD' : (upd H2 kt (.dK (kkv ks))) Da = some (.dK (kkv rs)) := by rw [upd_ne nDk]; exact eD
      have hat' : ∀ r ∈ rs, r.At (upd H2 kt (.dK (kkv ks))) := fun r m => (hat r m).1.gr (Oth.frz (sm _ _ upd_same)) Gr.box
      have hx2 := su _ _ hx1
      generalize upd H2 kt (.dK (kkv ks)) = H3 at su eD' hat' hx2
      refine ⟨.ref x, rfl, x, C, dx, _, rfl, hx2, L.cl, L.nk, by show 0 < 1000; decide, ?_⟩
      have g4 : Gr x H (upd H3 x (.ins C dx (putF "kind_table" (.ref Da) []))) := (gr_x (s1.trans su)).trans Gr.box
      have eD4 : (upd H3 x (.ins C dx (putF "kind_table" (.ref Da) []))) Da = some (.dK (kkv rs)) := Gr.box (b := x) _ _ ((Oth.ins hx2).ned eD') eD'
      have hat4 : ∀ r ∈ rs, r.At (upd H3 x (.ins C dx (putF "kind_table" (.ref Da) []))) := fun r m => (hat' r m).gr (Oth.ins hx2) Gr.box
      have hx4 : (upd H3 x (.ins C dx (putF "kind_table" (.ref Da) []))) x = some (.ins C dx [(("kind_table" : Str), V.ref Da)]) := by rw [upd_same, pf1]
      generalize upd H3 x (.ins C dx (putF "kind_table" (.ref Da) [])) = H4 at g4 eD4 hat4 hx4
      have relk : RelK ks rs := ⟨by omega, hrel⟩
      clear hat hat' eD eD' hx2 su sm hrel hl nD nDk
      have S4 := S.gr (Oth.ins hx) g4
      -- face_table
      refine ⟨ft, .dK (fkvs fs), S4.fd, trivial, fun od => ⟨.ref ft, rfl, ft, od, rfl, .inl ⟨fkvs fs, upd_same, fun Db nD => ?_⟩⟩⟩
      have hfl : (fkvs fs).length = fs.length := List.length_map ..
      refine dc_it walk_keys (fun i H' => Same (upd H4 ft (.frz od (.dK (fkvs fs)))) H' ∧ ∃ ts : List FRow, ts.length = i ∧ (∀ (j : Nat) (a b : FRow), fs[j]? = some a → ts[j]? = some b → b.nm = a.nm ∧ b.fds = a.fds) ∧ (∀ r ∈ ts, FldAt H' r.da r.fds ∧ r.da ≠ Db) ∧ H' Db = some (.dK (fkvs ts)))
        ⟨same_new nD, [], rfl, (fun j a b _ e => by simp at e), (fun r m => by cases m), upd_same⟩ (fun i H _ p => p.1 _ _ upd_same) ?_ ?_
      · rintro i y H5 H6 hi ⟨sm, ts, hl, hrel, hat, eD⟩ ⟨rfl, k, v, e, rfl⟩
        obtain ⟨k, er, rfl, rfl⟩ := fkvs_at e
        have hm := List.mem_of_getElem? er
        have rk : Rd H6 ft (.dK (fkvs fs)) := .inr ⟨od, sm _ _ upd_same⟩
        have hk1 := S4.fa k hm
        have hda : Rd H6 k.da (.dK (fkv k.fds)) := rd_same sm (rd_put S4.fd hk1.at_)
        have hsh : ∀ f ∈ k.fds, ShAt H6 f.2.1 f.2.2 := fun f m => ((hk1.sh f m).gr (xs := []) (.inr ⟨_, S4.fd⟩) Gr.box).same sm
        refine ⟨rfl, lcT ⟨.str k.nm, rfl, .ref ft, rfl, .str k.nm, rfl, ft, _, rfl, .inl ⟨fkvs fs, .inr k.nm, rk, rfl, (fkvs_val ok.ndf hm).symm⟩, k.da, fkv k.fds, rfl, hda, fun d nd => ?_⟩⟩
        have s5 : Same H6 (upd H6 d (.dK (fkv k.fds))) := same_new nd
        have eD5 := s5 _ _ eD
        have ndD : d ≠ Db := (ne_of_none eD nd).symm
        have at5 : FldAt (upd H6 d (.dK (fkv k.fds))) d k.fds := ⟨upd_same, fun f m => (hsh f m).same s5⟩
        refine ⟨fkvs ts, .inr k.nm, rfl, eD5, ?_, same_upd (sm.trans s5) nD, ts ++ [FRow.mk k.nm d k.fds], ?_, ?_, ?_, ?_⟩
        · rw [show (fkvs ts).length = ts.length from List.length_map ..]
          exact Nat.lt_of_le_of_lt (show ts.length ≤ 1000 by omega) (by decide)
        · rw [List.length_append, hl]; rfl
        · exact rel_snoc er hl hrel ⟨rfl, rfl⟩
        · intro r hr
          rcases List.mem_append.mp hr with hr | hr
          · exact ⟨((hat r hr).1.same s5).put eD5 (hat r hr).2, (hat r hr).2⟩
          · obtain rfl := List.mem_singleton.mp hr
            exact ⟨at5.put eD5 ndD, ndD⟩
        · rw [upd_same]
          have hn : k.nm ∉ ts.map (fun k : FRow => k.nm) := by
            rw [rel_names (f := fun k : FRow => k.nm) hl (by omega) (fun j a b ea eb => (hrel j a b ea eb).1)]
            exact name_new ok.ndf er
          exact congrArg (fun z => some (HO.dK z)) (put_snoc (f := fun k : FRow => k.nm) (g := fun k => V.ref k.da) (r := FRow.mk k.nm d k.fds) hn)
      · rintro H5 ⟨sm, ts, hl, hrel, hat, eD⟩
        refine ⟨sm _ _ upd_same, ?_⟩
        have nDk : Db ≠ ft := fun z => by rw [z, upd_same] at nD; cases nD
        have su : Same H4 (upd H5 ft (.dK (fkvs fs))) := same_unlock S4.fd sm
        have eD' : (upd H5 ft (.dK (fkvs fs))) Db = some (.dK (fkvs ts)) := by rw [upd_ne nDk]; exact eD
        have hat' : ∀ r ∈ ts, FldAt (upd H5 ft (.dK (fkvs fs))) r.da r.fds := fun r m => (hat r m).1.gr (Oth.frz (sm _ _ upd_same)) Gr.box
        have hx5 := su _ _ hx4
        have eDa5 := su _ _ eD4
        have hatk : ∀ r ∈ rs, r.At (upd H5 ft (.dK (fkvs fs))) := fun r m => (hat4 r m).same su
        generalize upd H5 ft (.dK (fkvs fs)) = H6 at su eD' hat' hx5 eDa5 hatk
        refine ⟨.ref x, rfl, x, C, dx, _, rfl, hx5, L.cl, L.nf, by show 1 < 1000; decide, ?_⟩
        have gx : Gr x H6 (upd H6 x (.ins C dx (putF "face_table" (.ref Db) [(("kind_table" : Str), V.ref Da)]))) := Gr.box
        have g7 := (g4.trans (gr_x su)).trans gx
        have eDa7 := gx _ _ ((Oth.ins hx5).ned eDa5) eDa5
        have eDb7 := gx _ _ ((Oth.ins hx5).ned eD') eD'
        have hatk7 : ∀ r ∈ rs, r.At _ := fun r m => (hatk r m).gr (Oth.ins hx5) gx
        have hatf7 : ∀ r ∈ ts, FldAt _ r.da r.fds := fun r m => (hat' r m).gr (Oth.ins hx5) gx
        have hx7 : (upd H6 x (.ins C dx (putF "face_table" (.ref Db) [(("kind_table" : Str), V.ref Da)]))) x = some (.ins C dx [(("kind_table" : Str), V.ref Da), ("face_table", V.ref Db)]) := by rw [upd_same, pf2]
        generalize upd H6 x (.ins C dx (putF "face_table" (.ref Db) [(("kind_table" : Str), V.ref Da)])) = H7 at g7 eDa7 eDb7 hatk7 hatf7 hx7 gx
        have relf : RelF fs ts := ⟨by omega, hrel⟩
        clear hat hat' eD eD' hx5 su sm hrel hl nD nDk gx
        have S7 := S.gr (Oth.ins hx) g7
        -- union_table
        refine ⟨ut, .dK (ukv us), S7.ud, trivial, fun od => ⟨.ref ut, rfl, ut, od, rfl, .inl ⟨ukv us, upd_same, fun Dc nD => ?_⟩⟩⟩
        have hul : (ukv us).length = us.length := List.length_map ..
        refine dc_it walk_keys (fun i H' => Same (upd H7 ut (.frz od (.dK (ukv us)))) H' ∧ ∃ vs : List URow, vs.length = i ∧ (∀ (j : Nat) (a b : URow), us[j]? = some a → vs[j]? = some b → b.nm = a.nm ∧ b.ms.Perm a.ms ∧ sortedS b.ms = true) ∧ (∀ r ∈ vs, H' r.t = some (.tup (r.ms.map V.str))) ∧ H' Dc = some (.dK (ukv vs)))
          ⟨same_new nD, [], rfl, (fun j a b _ e => by simp at e), (fun r m => by cases m), upd_same⟩ (fun i H _ p => p.1 _ _ upd_same) ?_ ?_
        · rintro i y H8 H9 hi ⟨sm, vs, hl, hrel, hat, eD⟩ ⟨rfl, k, v, e, rfl⟩
          obtain ⟨k, er, rfl, rfl⟩ := ukv_at e
          have hm := List.mem_of_getElem? er
          have rk : Rd H9 ut (.dK (ukv us)) := .inr ⟨od, sm _ _ upd_same⟩
          have ht : H9 k.t = some (.tup (k.ms.map V.str)) := sm _ _ (by rw [upd_ne (ne_of (S7.ua k hm) S7.ud (by intro z; cases z))]; exact S7.ua k hm)
          obtain ⟨_, _, n3, _⟩ := ok.ud k hm
          refine ⟨rfl, lcT ⟨.str k.nm, rfl, .ref ut, rfl, .str k.nm, rfl, ut, _, rfl, .inl ⟨ukv us, .inr k.nm, rk, rfl, (ukv_val ok.ndu hm).symm⟩, k.t, k.ms, rfl, .inl (.inl ht), by omega, fun ys p pm so np => ⟨p, _, rfl, .inl ⟨SqL.of upd_same, fun l nl => ?_⟩⟩⟩⟩
          have s5 : Same H9 (upd (upd H9 p (.lst (ys.map V.str))) l (.tup (ys.map V.str))) := (same_new np).trans (same_new nl)
          have eD5 := s5 _ _ eD
          have el : (upd (upd H9 p (.lst (ys.map V.str))) l (.tup (ys.map V.str))) l = some (.tup (ys.map V.str)) := upd_same
          refine ⟨ukv vs, .inr k.nm, rfl, eD5, ?_, same_upd (sm.trans s5) nD, vs ++ [URow.mk k.nm l ys], ?_, ?_, ?_, ?_⟩
          · rw [show (ukv vs).length = vs.length from List.length_map ..]
            exact Nat.lt_of_le_of_lt (show vs.length ≤ 1000 by omega) (by decide)
          · rw [List.length_append, hl]; rfl
          · exact rel_snoc er hl hrel ⟨rfl, pm, so⟩
          · intro r hr
            rcases List.mem_append.mp hr with hr | hr
            · have e5 := s5 _ _ (hat r hr)
              rw [upd_ne (ne_of e5 eD5 (by intro z; cases z))]
              exact e5
            · obtain rfl := List.mem_singleton.mp hr
              rw [upd_ne (ne_of el eD5 (by intro z; cases z))]
              exact el
          · rw [upd_same]
            have hn : k.nm ∉ vs.map (fun k : URow => k.nm) := by
              rw [rel_names (f := fun k : URow => k.nm) hl (by omega) (fun j a b ea eb => (hrel j a b ea eb).1)]
              exact name_new ok.ndu er
            exact congrArg (fun z => some (HO.dK z)) (put_snoc (f := fun k : URow => k.nm) (g := fun k => V.ref k.t) (r := URow.mk k.nm l ys) hn)
        · rintro H8 ⟨sm, vs, hl, hrel, hat, eD⟩
          refine ⟨sm _ _ upd_same, ?_⟩
          have nDk : Dc ≠ ut := fun z => by rw [z, upd_same] at nD; cases nD
          have su : Same H7 (upd H8 ut (.dK (ukv us))) := same_unlock S7.ud sm
          have eD' : (upd H8 ut (.dK (ukv us))) Dc = some (.dK (ukv vs)) := by rw [upd_ne nDk]; exact eD
          have hat' : ∀ r ∈ vs, (upd H8 ut (.dK (ukv us))) r.t = some (.tup (r.ms.map V.str)) := fun r m => by
            rw [upd_ne (ne_of (hat r m) (sm _ _ upd_same) (by intro z; cases z))]
            exact hat r m
          have hx8 := su _ _ hx7
          generalize upd H8 ut (.dK (ukv us)) = H9 at su eD' hat' hx8
          refine ⟨.ref x, rfl, x, C, dx, _, rfl, hx8, L.cl, L.nu, by show 2 < 1000; decide, ?_⟩
          refine ⟨.str root, rfl, .ref x, rfl, x, C, dx, _, rfl, upd_same, L.cl, L.nr, by rw [pf3]; show 3 < 1000; decide, ?_⟩
          have gx : Gr x H9 (upd (upd H9 x (.ins C dx (putF "union_table" (.ref Dc) [(("kind_table" : Str), V.ref Da), ("face_table", V.ref Db)]))) x (.ins C dx (putF "root" (.str root) (putF "union_table" (.ref Dc) [(("kind_table" : Str), V.ref Da), ("face_table", V.ref Db)])))) := Gr.box.trans Gr.box
          refine q _ ((g7.trans (gr_x su)).trans gx) ⟨dx, Da, Db, Dc, rs, ts, vs, ?_, ⟨?_, ?_, ?_, ?_, ?_, ?_⟩, relk, relf, ⟨by omega, hrel⟩⟩
          · rw [upd_same, pf3, pf4]
          · exact gx _ _ ((Oth.ins hx8).ned (su _ _ eDa7)) (su _ _ eDa7)
          · exact gx _ _ ((Oth.ins hx8).ned (su _ _ eDb7)) (su _ _ eDb7)
          · exact gx _ _ ((Oth.ins hx8).ned eD') eD'
          · exact fun r m => ((hatk7 r m).same su).gr (Oth.ins hx8) gx
          · exact fun r m => ((hatf7 r m).same su).gr (Oth.ins hx8) gx
          · exact fun r m => gx _ _ ((Oth.ins hx8).net (hat' r m)) (hat' r m)
end
end NW
namespace NW
open PySem PySem.Spec PyProof.Rows L2
abbrev s_Lbox : Stmt := topS 49
abbrev N_Lbox : List Str := ["_law_script"]
theorem sc_Lbox : FnScope N_Lbox ["_law_script"] (defScope s_Lbox) := ⟨rfl, rfl, rfl, by decide +kernel, rfl, by decide +kernel, by decide +kernel⟩
abbrev s_Ldraw : Stmt := topS 50
abbrev N_Ldraw : List Str := ["_law_box_here", "_law_many", "_law_cell", "_law_digit", "_law_number"]
theorem sc_Ldraw : FnScope N_Ldraw ["_law_box_here", "_law_many"] (defScope s_Ldraw) := ⟨rfl, rfl, rfl, by decide +kernel, rfl, by decide +kernel, by decide +kernel⟩
section
variable {P : Program} {w : World} {K : PySem.W.Frag} {mg : Str → Option Value} {base : Heap}
def spLbox (K : PySem.W.Frag) : Sp := fun vs H Q _ => ∃ (a : Addr) (ns : List Int), vs = [.ref a] ∧ SqL K H a (ns.map V.int) ∧ ns.length ≤ 63 ∧ ∀ H' b r, Same H H' → H b = none → H r = none → Box H' b r → Q (.ref b) H'
theorem ok_Lbox {f : Addr} {fd : FuncData} (D : Df K mg "_law_box" s_Lbox f fd ["_law_script"]) (T : Nms mg) : FnOk P w K mg base CX0 1 f fd ["_law_script"] (spLbox K) := by
  refine D.F.ok sc_Lbox (fun vs H Q E h => ?_) (fun cdv A outer s H vs Q E hr h => ?_)
  · obtain ⟨a, ns, rfl, _⟩ := h
    rfl
  · obtain ⟨a, ns, rfl, hS, hlen, q⟩ := h
    refine ⟨_, (pss_one (ps_ret (pe_lst (pa_cons (pe_callTy call_list_of (by rfl) T.n_list (by decide +kernel) (pa_cons (pe_slice sl_list (pv 0) po_none (po_some pe_int)) pa_nil)) (pa_cons pe_int (pa_cons pe_int (pa_cons pe_int (pa_cons pe_int pa_nil)))))))), ?_⟩
    refine ⟨.ref a, rfl, 63, rfl, a, _, rfl, hS, fun p np => ?_⟩
    refine ⟨p, _, rfl, .inl (SqL.of upd_same), fun l nl => ?_⟩
    refine ⟨by show 5 ≤ sizeLine; decide, fun b nb => ?_⟩
    have e1 : cutV (ns.map V.int) none (some 63) = ns.map V.int := by
      unfold cutV
      rw [show HT.sIx (ns.map V.int).length (ns.map V.int).length (some 63) = min 63 (ns.map V.int).length from HT.sIx_nat _ _ 63, HT.sIx_none]
      rw [List.length_map, Nat.min_eq_right hlen, List.drop_zero, Nat.sub_zero]
      exact List.take_of_length_le (by rw [List.length_map]; exact Nat.le_refl _)
    rw [e1] at nl nb ⊢
    have nlp : l ≠ p := fun e => by rw [e, upd_same] at nl; cases nl
    have nbl : b ≠ l := fun e => by rw [e, upd_same] at nb; cases nb
    have nbp : b ≠ p := fun e => by rw [e, upd_ne nlp.symm, upd_same] at nb; cases nb
    have nb0 : H b = Option.none := by rw [upd_ne nbl, upd_ne nbp] at nb; exact nb
    have nl0 : H l = Option.none := by rw [upd_ne nlp] at nl; exact nl
    refine q _ b l (fun c o e => ?_) nb0 nl0 ⟨ns, 0, 0, 1, 0, upd_same, ?_, nbl.symm, hlen, Int.le_refl _, by decide, by decide⟩
    · rw [upd_ne (ne_of_none e nb0), upd_ne (ne_of_none e nl0), upd_ne (ne_of_none e np)]
      exact e
    · rw [upd_ne nbl.symm, upd_same]
def spLdraw : Sp := fun vs H Q _ => ∃ (b r : Addr) (m : Int), vs = [.ref b, .int m] ∧ Box H b r ∧ 0 < m ∧ m < 1073741824 ∧ ∀ v H', 0 ≤ v → v < m → Gr b H H' → Box H' b r → Q (.int v) H'
theorem fmod_range {a m : Int} (h : 0 < m) : 0 ≤ a.fmod m ∧ a.fmod m < m := ⟨Int.fmod_nonneg_of_pos a h, Int.fmod_lt_of_pos a h⟩
theorem ok_Ldraw {f : Addr} {fd : FuncData} (D : Df K mg "_law_draw" s_Ldraw f fd ["_law_box_here", "_law_many"]) (T : Nms mg) : FnOk P w K mg base CX0 1 f fd ["_law_box_here", "_law_many"] spLdraw := by
  refine D.F.ok sc_Ldraw (fun vs H Q E h => ?_) (fun cdv A outer s H vs Q E hr h => ?_)
  · obtain ⟨b, r, m, rfl, _⟩ := h
    rfl
  · obtain ⟨b, r, m, rfl, ⟨ns, i, g, z, c, W⟩, m0, m1, q⟩ := h
    refine ⟨_, (pss_cons (ps_asg (pe_op op_add (pe_ix ix_list (pv 0) pe_int (fun _ _ => rfl)) pe_int) (pg_sub (pv 0) pe_int set_list))
      (pss_cons (ps_if (PW.pt (pw_and (pt_cmpR op_eq (pe_ix ix_list (pv 0) pe_int (fun _ _ => rfl)) pe_int (nomark _)) (pw_and1 (pt_cmpR op_lt (pe_ix ix_list (pv 0) pe_int (fun _ _ => rfl)) (pe_callB call_len_seq (by rfl) T.n_len PySem.boot_len (pa_cons (pe_ix ix_list (pv 0) pe_int (fun _ _ => rfl)) pa_nil)) (nomark _)))))
       (pss_cons (ps_set (i := 2) sc_Ldraw.nd rfl (.inl rfl) (pe_ix ix_list (pe_ix ix_list (pv 0) pe_int (fun _ _ => rfl)) (pe_ix ix_list (pv 0) pe_int (fun _ _ => rfl)) (fun _ _ => rfl)))
        (pss_cons (ps_asg (pe_op op_add (pe_ix ix_list (pv 0) pe_int (fun _ _ => rfl)) pe_int) (pg_sub (pv 0) pe_int set_list))
        (pss_one (ps_if (pt_cmpR op_ge (pv 2) (pe_op op_pow pe_int pe_int) (nomark _))
         (pss_one (ps_asg (pv 2) (pg_sub (pv 0) pe_int set_list)))
         (pss_one (ps_asg (pe_op op_modN (pe_callTy call_int1 (by rfl) T.n_int (by decide +kernel) (pa_cons (pe_op op_add (pe_op op_add (pe_op op_mul (pe_ix ix_list (pv 0) pe_int (fun _ _ => rfl)) pe_int) (pe_op op_mul (pe_op op_modN (pe_callTy call_int1 (by rfl) T.n_int (by decide +kernel) (pa_cons (pv 2) pa_nil)) pe_int) pe_int)) pe_int) pa_nil)) pe_int) (pg_sub (pv 0) pe_int set_list)))))))
       pss_nil)
      (pss_cons (ps_if (pt_cmpR op_gt (pe_ix ix_list (pv 0) pe_int (fun _ _ => rfl)) pe_int (nomark _))
       (pss_cons (ps_set (i := 3) sc_Ldraw.nd rfl (.inl rfl) (pe_op op_modN (pe_callTy call_int1 (by rfl) T.n_int (by decide +kernel) (pa_cons (pe_ix ix_list (pv 0) pe_int (fun _ _ => rfl)) pa_nil)) (pv 1)))
        (pss_cons (ps_asg (pe_op op_fdivN (pe_ix ix_list (pv 0) pe_int (fun _ _ => rfl)) (pv 1)) (pg_sub (pv 0) pe_int set_list))
        (pss_one (ps_ret (pv 3)))))
       pss_nil)
      (pss_cons (ps_asg (pe_op op_modN (pe_callTy call_int1 (by rfl) T.n_int (by decide +kernel) (pa_cons (pe_op op_add (pe_op op_add (pe_op op_mul (pe_ix ix_list (pv 0) pe_int (fun _ _ => rfl)) pe_int) (pe_op op_mul (pe_ix ix_list (pv 0) pe_int (fun _ _ => rfl)) pe_int)) pe_int) pa_nil)) pe_int) (pg_sub (pv 0) pe_int set_list))
      (pss_cons (ps_set (i := 4) sc_Ldraw.nd rfl (.inl rfl) (pe_op op_modN (pe_callTy call_int1 (by rfl) T.n_int (by decide +kernel) (pa_cons (pe_op op_add (pe_op op_mul (pe_ix ix_list (pv 0) pe_int (fun _ _ => rfl)) (pe_op op_add (pe_op op_mul (pe_ix ix_list (pv 0) pe_int (fun _ _ => rfl)) pe_int) pe_int)) (pe_ix ix_list (pv 0) pe_int (fun _ _ => rfl))) pa_nil)) pe_int))
      (pss_cons (ps_set (i := 4) sc_Ldraw.nd rfl (.inl rfl) (pe_op op_modN (pe_callTy call_int1 (by rfl) T.n_int (by decide +kernel) (pa_cons (pe_op op_mul (pv 4) (pe_op op_add (pe_op op_fdivN (pv 4) pe_int) pe_int)) pa_nil)) pe_int))
      (pss_one (ps_ret (pe_op op_modN (pe_callTy call_int1 (by rfl) T.n_int (by decide +kernel) (pa_cons (pe_op op_fdivN (pv 4) pe_int) pa_nil)) (pv 1)))))))))), ?_⟩
    refine cut2 (fun σ2 H2 => ∃ i g z c y2, σ2 = [some (.ref b), some (.int m), y2, none, none] ∧ Gr b H H2 ∧ BoxW H2 b r ns i g z c) ?_ (fun rest => ?_)
    · rintro σ2 H2 ⟨i, g, z, c, y2, rfl, gr, W⟩
      -- if box[2] > 0
      refine ⟨.ref b, rfl, b, _, 2, _, rfl, rfl, W.sq, at2, _, _, rfl, rfl, _, rfl, ite2 (fun e => ?_) (fun e => ?_)⟩
      · refine ⟨.ref b, rfl, b, _, 2, _, rfl, rfl, W.sq, at2, .inl ⟨_, rfl, _, rfl, _, _, rfl, rfl, Int.ne_of_gt m0, ?_⟩⟩
        refine ⟨.ref b, rfl, b, _, 2, _, rfl, rfl, W.sq, at2, _, rfl, _, _, rfl, rfl, ⟨Int.ne_of_gt m0, by omega⟩, .ref b, rfl, b, _, 2, 2, rfl, rfl, W.at_, rfl, ?_⟩
        have W1 := W.set (i' := i) (g' := g.fdiv m) (z' := z) (c' := c) W.i0 W.z0 W.z1
        exact ⟨_, rfl, q _ _ (fmod_range m0).1 (fmod_range m0).2 (gr.trans Gr.box) ⟨_, _, _, _, _, W1⟩⟩
      · -- box[3] = ..
        refine ⟨.ref b, rfl, b, _, 3, _, rfl, rfl, W.sq, at3, _, _, rfl, rfl, .inr ⟨by decide, by decide⟩, ?_⟩
        refine ⟨.ref b, rfl, b, _, 4, _, rfl, rfl, W.sq, at4, _, _, rfl, rfl, .inr ⟨by decide, by decide⟩, _, _, rfl, rfl, _, _, rfl, rfl, .inl ⟨_, rfl, _, _, rfl, rfl, nz rfl, ?_⟩⟩
        refine ⟨.ref b, rfl, b, _, 3, 3, rfl, rfl, W.at_, rfl, ?_⟩
        have hz := fmod_range (a := z * 48271 + c * 69621 + 1) (show (0 : Int) < 2147483629 by decide)
        have W1 := W.set (i' := i) (g' := g) (z' := (z * 48271 + c * 69621 + 1).fmod 2147483629) (c' := c) W.i0 hz.1 (by omega)
        have g1 := gr.trans (Gr.box (b := b) (H := H2) (o := .lst (bl r i g ((z * 48271 + c * 69621 + 1).fmod 2147483629) c)))
        -- number = int(box[3] * (box[4] * 7919 + 17) + box[4]) % 2147483399
        refine ⟨.ref b, rfl, b, _, 3, _, rfl, rfl, W1.sq, at3, .ref b, rfl, b, _, 4, _, rfl, rfl, W1.sq, at4, _, _, rfl, rfl, .inr ⟨by decide, by decide⟩, _, _, rfl, rfl, _, _, rfl, rfl, .inl ⟨by omega, by omega⟩, ?_⟩
        refine ⟨.ref b, rfl, b, _, 4, _, rfl, rfl, W1.sq, at4, _, _, rfl, rfl, .inl ⟨_, rfl, _, _, rfl, rfl, nz rfl, ?_⟩⟩
        have hn1 := fmod_range (a := (((z * 48271 + c * 69621 + 1).fmod 2147483629) * (c * 7919 + 17) + c)) (show (0 : Int) < 2147483399 by decide)
        -- number = int(number * (number // 1009 + 40692)) % 2147483647
        refine ⟨_, rfl, _, rfl, _, _, rfl, rfl, ⟨by decide, by decide⟩, _, _, rfl, rfl, _, _, rfl, rfl, .inl ⟨by omega, by omega⟩, .inl ⟨_, rfl, _, _, rfl, rfl, nz rfl, ?_⟩⟩
        -- return int(number // 8191) % many
        refine ⟨_, rfl, _, _, rfl, rfl, ⟨by decide, by decide⟩, .inl ⟨_, rfl, .int m, rfl, _, _, rfl, rfl, Int.ne_of_gt m0, ?_⟩⟩
        exact q _ _ (fmod_range m0).1 (fmod_range m0).2 g1 ⟨_, _, _, _, _, W1⟩
    refine ⟨.ref b, rfl, b, _, 4, _, rfl, rfl, W.sq, at4, c, 1, rfl, rfl, .ref b, rfl, b, _, 4, 4, rfl, rfl, W.at_, rfl, ?_⟩
    have W1 := W.set (i' := i) (g' := g) (z' := z) (c' := c + 1) W.i0 W.z0 W.z1
    have g1 : Gr b H (upd H b (.lst (bl r i g z (c + 1)))) := Gr.box
    -- if box[2] == 0 and box[1] < len(box[0])
    refine ⟨.ref b, rfl, b, _, 2, _, rfl, rfl, W1.sq, at2, rfl, _, rfl, ite2 (fun e => ?_) (fun e => ?_)⟩
    · refine ⟨.ref b, rfl, b, _, 1, _, rfl, rfl, W1.sq, at1, .ref b, rfl, b, _, 0, _, rfl, rfl, W1.sq, at0, r, _, rfl, .inl (SqL.of W1.lst), _, _, rfl, rfl, _, rfl, ite2 (fun e => ?_) (fun e => ?_)⟩
      · -- cell = box[0][box[1]]
        have ei : i < (ns.map V.int).length := of_decide_eq_true e
        rw [List.length_map] at ei
        obtain ⟨j, rfl⟩ := Int.eq_ofNat_of_zero_le W.i0
        have hj : j < ns.length := by omega
        have gj : atI (ns.map V.int) (j : Int) = some (.int ns[j]) := atI_nat (by rw [List.getElem?_map, List.getElem?_eq_getElem hj]; rfl)
        refine ⟨.ref b, rfl, b, _, 0, _, rfl, rfl, W1.sq, at0, .ref b, rfl, b, _, 1, _, rfl, rfl, W1.sq, at1, r, _, _, _, rfl, rfl, SqL.of W1.lst, gj, ?_⟩
        -- box[1] = box[1] + 1
        refine ⟨.ref b, rfl, b, _, 1, _, rfl, rfl, W1.sq, at1, _, 1, rfl, rfl, .ref b, rfl, b, _, 1, 1, rfl, rfl, W1.at_, rfl, ?_⟩
        have W2 := W1.set (i' := (j : Int) + 1) (g' := g) (z' := z) (c' := c + 1) (by omega) W.z0 W.z1
        have g2 := g1.trans (Gr.box (b := b) (H := upd H b (.lst (bl r j g z (c + 1)))) (o := .lst (bl r ((j : Int) + 1) g z (c + 1))))
        -- if cell >= 10 ** 18
        refine ⟨.int ns[j], rfl, _, _, rfl, rfl, ⟨by decide, by decide, by decide⟩, _, _, rfl, rfl, _, rfl, ite2 (fun e => ?_) (fun e => ?_)⟩
        · refine ⟨.int ns[j], rfl, .ref b, rfl, b, _, 2, 2, rfl, rfl, W2.at_, rfl, ?_⟩
          have W3 := W2.set (i' := (j : Int) + 1) (g' := ns[j]) (z' := z) (c' := c + 1) (by omega) W.z0 W.z1
          exact rest _ _ ⟨_, _, _, _, some (.int ns[j]), rfl, g2.trans Gr.box, W3⟩
        · refine ⟨.ref b, rfl, b, _, 3, _, rfl, rfl, W2.sq, at3, _, _, rfl, rfl, .inr ⟨by decide, by decide⟩, ?_⟩
          refine ⟨.int ns[j], rfl, .inl ⟨_, rfl, _, _, rfl, rfl, nz rfl, _, _, rfl, rfl, .inr ⟨by decide, by decide⟩, _, _, rfl, rfl, _, _, rfl, rfl, .inl ⟨_, rfl, _, _, rfl, rfl, nz rfl, ?_⟩⟩⟩
          refine ⟨.ref b, rfl, b, _, 3, 3, rfl, rfl, W2.at_, rfl, ?_⟩
          have hz := fmod_range (a := z * 48271 + (ns[j]).fmod 1000003 * 69621 + 7919) (show (0 : Int) < 2147483647 by decide)
          have W3 := W2.set (i' := (j : Int) + 1) (g' := g) (z' := (z * 48271 + (ns[j]).fmod 1000003 * 69621 + 7919).fmod 2147483647) (c' := c + 1) (by omega) hz.1 (by omega)
          exact rest _ _ ⟨_, _, _, _, some (.int ns[j]), rfl, g2.trans Gr.box, W3⟩
      · exact rest _ _ ⟨_, _, _, _, none, rfl, g1, W1⟩
    · exact rest _ _ ⟨_, _, _, _, none, rfl, g1, W1⟩
end
end NW
namespace NW
open PySem PySem.Spec PyProof.Rows L2
open TL (tl)
open StX (pa_star)
abbrev s_Lshape : Stmt := topS 52
abbrev N_Lshape : List Str := ["_law_box_here", "_law_bases_here", "_law_most", "_law_shape_here", "_law_lists", "_law_k", "_law_sure"]
theorem sc_Lshape : FnScope N_Lshape ["_law_box_here", "_law_bases_here", "_law_most"] (defScope s_Lshape) := ⟨rfl, rfl, rfl, by decide +kernel, rfl, by decide +kernel, by decide +kernel⟩
theorem okS_mono {l : List Str} : ∀ {s : Shp} {n m : Nat} {o : Bool}, n ≤ m → okS l n o s → okS l m o s := by
  intro s
  induction s with
  | base z =>
    intro n m o _ h
    cases n <;> cases m <;> exact h
  | sure s ih =>
    intro n m o hl h
    cases n with
    | zero => exact h.elim
    | succ n =>
      cases m with
      | zero => omega
      | succ m => exact ⟨h.1, ih (by omega) h.2⟩
  | list s ih =>
    intro n m o hl h
    cases n with
    | zero => exact h.elim
    | succ n =>
      cases m with
      | zero => omega
      | succ m => exact ih (by omega) (show okS l n false s from h)
def Shp.isSure : Shp → Bool
  | .sure _ => true
  | _ => false
theorem okS_un {l : List Str} {n : Nat} {s : Shp} (h : okS l n false s) (hs : s.isSure = false) : okS l n true s := by
  cases s with
  | base z => cases n <;> exact h
  | sure s => cases hs
  | list s => cases n <;> exact h
section
variable {P : Program} {w : World} {K : PySem.W.Frag} {mg : Str → Option Value} {base : Heap}

def spLshape : Sp := fun vs H Q _ => ∃ (b r bs : Addr) (l : List Str) (m : Nat), vs = [.ref b, .ref bs, .int m] ∧ Box H b r ∧ H bs = some (.lst (l.map V.str)) ∧ bs ≠ b ∧ 0 < l.length ∧ l.length ≤ 1000 ∧ m ≤ 4 ∧
  ∀ v s H', ShAt H' v s → okS l 4 false s → Gr b H H' → Box H' b r → Q v H'
theorem ok_Lshape {f f1 : Addr} {fd fd1 : FuncData} (D : Df K mg "_law_shape" s_Lshape f fd ["_law_box_here", "_law_bases_here", "_law_most"]) (D_Ldraw : Df K mg "_law_draw" s_Ldraw f1 fd1 ["_law_box_here", "_law_many"]) (T : Nms mg) : FnOk P w K mg base CX0 2 f fd ["_law_box_here", "_law_bases_here", "_law_most"] spLshape := by
  have G_Ldraw : FnOk P w K mg base CX0 1 f1 fd1 ["_law_box_here", "_law_many"] spLdraw := ok_Ldraw D_Ldraw T
  refine D.F.ok sc_Lshape (fun vs H Q E h => ?_) (fun cdv A outer s H vs Q E hr h => ?_)
  · obtain ⟨b, r, bs, l, m, rfl, _⟩ := h
    rfl
  · obtain ⟨b, r, bs, l, m, rfl, B, hbs, nbs, l0, l1, hm, q⟩ := h
    refine ⟨_, (pss_cons (ps_set (i := 3) sc_Lshape.nd rfl (.inl rfl) (pe_ix ix_list (pv 1) (pe_call G_Ldraw (hr.mono (by decide)) (by rfl) D_Ldraw.g D_Ldraw.F.kp D_Ldraw.b .nil pass0 (pa_cons (pv 0) (pa_cons (pe_callB call_len_seq (by rfl) T.n_len (by decide +kernel) (pa_cons (pv 1) pa_nil)) pa_nil))) (fun _ _ => rfl)))
      (pss_cons (ps_set (i := 4) sc_Lshape.nd rfl (.inl rfl) pe_int)
      (pss_cons (ps_for PassesOwn.never rfl (pi_range1 (by rfl) T.n_range (pa_cons (pe_call G_Ldraw (hr.mono (by decide)) (by rfl) D_Ldraw.g D_Ldraw.F.kp D_Ldraw.b .nil pass0 (pa_cons (pv 0) (pa_cons (pe_op op_add (pv 2) pe_int) pa_nil))) pa_nil)) (pg_name (i := 5) sc_Lshape.nd rfl (.inl rfl))
       (pss_cons (ps_set (i := 6) sc_Lshape.nd rfl (.inl rfl) (pe_and (pe_not (pe_callB call_isi (by rfl) T.n_isinstance (by decide +kernel) (pa_cons (pv 3) (pa_cons (pe_bltn (v := .ty "str") (by rfl) T.n_str (by decide +kernel) rfl) pa_nil)))) (pe_one (pe_cmpR op_eq (pe_ix ix_tup (pv 3) pe_int (fun _ _ => rfl)) pe_str (nomark _)))))
        (pss_one (ps_if (PW.pt (pw_and (pt_not (pt_val (pv 6))) (pw_and1 (pt_cmpR op_eq (pe_call G_Ldraw (hr.mono (by decide)) (by rfl) D_Ldraw.g D_Ldraw.F.kp D_Ldraw.b .nil pass0 (pa_cons (pv 0) (pa_cons pe_int pa_nil))) pe_int (nomark _)))))
         (pss_one (ps_set (i := 3) sc_Lshape.nd rfl (.inl rfl) (pe_tup (pa_cons pe_str (pa_cons (pv 3) pa_nil)))))
         (pss_one (ps_if (PW.pt (pw_or (pt_cmpR op_lt (pv 4) pe_int (nomark _)) (pw_or1 (pt_cmpR op_eq (pv 2) pe_int (nomark _)))))
           (pss_cons (ps_set (i := 3) sc_Lshape.nd rfl (.inl rfl) (pe_tup (pa_cons pe_str (pa_cons (pv 3) pa_nil))))
            (pss_one (ps_set (i := 4) sc_Lshape.nd rfl (.inl rfl) (pe_op op_add (pv 4) pe_int))))
           pss_nil))))))
      (pss_one (ps_ret (pv 3)))))), ?_⟩
    -- the base
    refine ⟨.ref bs, rfl, .ref b, rfl, .ref bs, rfl, bs, _, rfl, .inl (SqL.of hbs), b, r, (l.length : Int), ?_, B, by omega, by omega, fun d H1 d0 d1 g1 B1 => ?_⟩
    · show [V.ref b, V.int ((l.map V.str).length : Int)] = [V.ref b, V.int (l.length : Int)]
      rw [List.length_map]
    obtain ⟨d, rfl⟩ := Int.eq_ofNat_of_zero_le d0
    have hd : d < l.length := by omega
    refine ⟨bs, _, d, .str l[d], rfl, rfl, SqL.of (g1 _ _ nbs hbs), atI_nat (by rw [List.getElem?_map, List.getElem?_eq_getElem hd]; rfl), ?_⟩
    -- range(draw(most + 1))
    refine ⟨.ref b, rfl, .int m, rfl, _, _, rfl, rfl, b, r, ((m : Int) + 1), rfl, B1, by omega, by omega, fun n H2 n0 n1 g2 B2 => ?_⟩
    obtain ⟨n, rfl⟩ := Int.eq_ofNat_of_zero_le n0
    have hn : n ≤ m := by omega
    refine ⟨n, rfl, by omega, by omega, for_range (lo := 0) (n := n) (fun i σ H' => ∃ (v : V) (s : Shp) (c : Nat) (y5 y6 : Option V), σ = [some (.ref b), some (.ref bs), some (.int m), some v, some (.int c), y5, y6] ∧ ShAt H' v s ∧ okS l i false s ∧ Gr b H H' ∧ Box H' b r) ?_ ?_ ?_⟩
    · exact ⟨_, .base l[d], 0, none, none, rfl, rfl, List.getElem_mem hd, g1.trans g2, B2⟩
    · rintro i σ H3 hi ⟨v, s, c, y5, y6, rfl, hv, hs, g3, B3⟩
      refine cut1 (fun σ' H' => σ' = [some (.ref b), some (.ref bs), some (.int m), some v, some (.int c), some (.int (0 + i)), some (.bl s.isSure)] ∧ H3 = H') ?_ (fun rest => ?_)
      · rintro σ' H' ⟨rfl, rfl⟩
        have hvs : ∀ {H5 : Hp}, Gr b H3 H5 → ShAt H5 v s := fun g => by
          obtain ⟨xs, e⟩ := B3.lst
          exact hv.grO (Oth.lst e) g
        refine cutE (fun σ' H' => σ' = [some (.ref b), some (.ref bs), some (.int m), some v, some (.int c), some (.int (0 + i)), some (.bl s.isSure)] ∧ Gr b H3 H' ∧ Box H' b r) ?_ (fun els => ?_)
        · rintro σ' H5 ⟨rfl, g5, B5⟩
          have go : ∀ p, H5 p = none → ∃ (v' : V) (s' : Shp) (c' : Nat) (y5 y6 : Option V), ([some (V.ref b), some (V.ref bs), some (V.int m), some (V.ref p), some (V.int ((c : Int) + 1)), some (V.int (0 + i)), some (V.bl s.isSure)] : L2.St) = [some (V.ref b), some (V.ref bs), some (V.int m), some v', some (V.int c'), y5, y6] ∧ ShAt (upd H5 p (.tup [.str "list", v])) v' s' ∧ okS l (i + 1) false s' ∧ Gr b H (upd H5 p (.tup [.str "list", v])) ∧ Box (upd H5 p (.tup [.str "list", v])) b r :=
            fun p np => ⟨_, .list s, c + 1, _, _, rfl, ⟨p, v, rfl, upd_same, hvs (g5.trans (Gr.new np))⟩, hs, (g3.trans g5).trans (Gr.new np), B5.new np⟩
          refine ⟨.int c, rfl, _, _, rfl, rfl, _, rfl, ite2 (fun e => ?_) (fun e => ?_)⟩
          · refine iteT ⟨v, rfl, by show 2 ≤ sizeLine; decide, fun p np => ⟨.int c, rfl, _, _, rfl, rfl, go p np⟩⟩
          · refine ⟨.int m, rfl, rfl, _, rfl, ite2 (fun e => ?_) (fun e => ?_)⟩
            · exact ⟨v, rfl, by show 2 ≤ sizeLine; decide, fun p np => ⟨.int c, rfl, _, _, rfl, rfl, go p np⟩⟩
            · exact ⟨v, s, c, _, _, rfl, hvs g5, okS_mono (by omega) hs, g3.trans g5, B5⟩
        · cases hsu : s.isSure with
          | true =>
            rw [hsu] at els
            exact ⟨_, rfl, true, rfl, iteF (els _ _ ⟨rfl, Gr.refl, B3⟩)⟩
          | false =>
            rw [hsu] at els
            refine ⟨_, rfl, false, rfl, iteT ⟨.ref b, rfl, b, r, 2, rfl, B3, by decide, by decide, fun d H4 d0 d1 g4 B4 => ⟨rfl, _, rfl, ite2 (fun e => ?_) (fun e => ?_)⟩⟩⟩
            · exact ⟨v, rfl, by show 2 ≤ sizeLine; decide, fun p np => ⟨_, .sure s, c, _, _, rfl, ⟨p, v, rfl, upd_same, hvs (g4.trans (Gr.new np))⟩, ⟨rfl, okS_un hs hsu⟩, (g3.trans g4).trans (Gr.new np), B4.new np⟩⟩
            · exact els _ _ ⟨rfl, g4, B4⟩
      · cases s with
        | base z =>
          obtain rfl := hv
          exact ⟨.str z, rfl, _, _, _, _, true, rfl, .ty "str", .base (.str z), kit_ty (by decide +kernel), true, rfl, false, rfl, iteF (rest _ _ ⟨rfl, rfl⟩)⟩
        | sure s =>
          obtain ⟨a, u, rfl, ha, hu⟩ := hv
          refine ⟨.ref a, rfl, _, _, _, _, false, rfl, .ty "str", .base (.tup ha), kit_ty (by decide +kernel), false, rfl, true, rfl, iteT ⟨.ref a, rfl, a, _, 0, _, rfl, rfl, .inl (.inl ha), atI_nat (j := 0) rfl, rfl, ?_⟩⟩
          rw [decide_eq_true rfl]
          exact rest _ _ ⟨rfl, rfl⟩
        | list s =>
          obtain ⟨a, u, rfl, ha, hu⟩ := hv
          refine ⟨.ref a, rfl, _, _, _, _, false, rfl, .ty "str", .base (.tup ha), kit_ty (by decide +kernel), false, rfl, true, rfl, iteT ⟨.ref a, rfl, a, _, 0, _, rfl, rfl, .inl (.inl ha), atI_nat (j := 0) rfl, rfl, ?_⟩⟩
          rw [decide_eq_false (show ¬ (V.str "list" = V.str "sure") by decide +kernel)]
          exact rest _ _ ⟨rfl, rfl⟩
    · rintro σ H3 ⟨v, s, c, y5, y6, rfl, hv, hs, g3, B3⟩
      exact ⟨v, rfl, q v s H3 hv (okS_mono (by omega) hs) g3 B3⟩
end
end NW
namespace NW
open PySem PySem.Spec PyProof.Rows L2
open TL (tl)
open StX (pa_star)
abbrev s_Lkind : Stmt := topS 53
abbrev N_Lkind : List Str := ["_law_box_here", "_law_faces", "_law_names", "_law_common", "_law_bases_here", "_law_most", "_law_table_here", "_law_face", "_law_field", "_law_k"]
theorem sc_Lkind : FnScope N_Lkind ["_law_box_here", "_law_faces", "_law_names", "_law_common", "_law_bases_here", "_law_most"] (defScope s_Lkind) := ⟨rfl, rfl, rfl, by decide +kernel, rfl, by decide +kernel, by decide +kernel⟩
theorem upd_id {H : Hp} {d : Addr} {u : HO} (h : H d = some u) : upd H d u = H := by
  funext b
  by_cases e : b = d
  · subst e
    rw [upd_same, h]
  · rw [upd_ne e]
theorem upd_comm {H : Hp} {a b : Addr} {o u : HO} (h : a ≠ b) : upd (upd H a o) b u = upd (upd H b u) a o := by
  funext c
  by_cases e1 : c = b
  · subst e1
    rw [upd_same, upd_ne h.symm, upd_same]
  · rw [upd_ne e1]
    by_cases e2 : c = a
    · subst e2
      rw [upd_same, upd_same]
    · rw [upd_ne e2, upd_ne e2, upd_ne e1]
/-- the j-th name with the j-th common shape -/
def Com (nm : List Str) (cm : List (V × Shp)) (f : Fld) : Prop := ∃ j : Nat, nm[j]? = some f.1 ∧ cm[j]? = some f.2
theorem Com.eq {nm : List Str} {cm : List (V × Shp)} (nd : nm.Nodup) {f g : Fld} (hf : Com nm cm f) (hg : Com nm cm g) (e : f.1 = g.1) : f = g := by
  obtain ⟨j, h1, h2⟩ := hf
  obtain ⟨k, h3, h4⟩ := hg
  rw [e] at h1
  have : j = k := nd_ix nd h1 h3
  subst this
  rw [h2] at h4
  exact Prod.ext e (Option.some.inj h4)
/-- what the maker of kinds is given -/
structure KArg (H : Hp) (b r fl nl cl bs : Addr) (rows : List FRow) (nm : List Str) (cm : List (V × Shp)) (l : List Str) : Prop where
  B : Box H b r
  hfl : H fl = some (.lst (rows.map fun k => V.ref k.da))
  hnl : H nl = some (.lst (nm.map V.str))
  hcl : H cl = some (.lst (cm.map (·.1)))
  hbs : H bs = some (.lst (l.map V.str))
  nfl : fl ≠ b
  nnl : nl ≠ b
  ncl : cl ≠ b
  nbs : bs ≠ b
  rat : ∀ k ∈ rows, FldAt H k.da k.fds
  r3 : rows.length ≤ 3
  n5 : nm.length = 5
  nnd : nm.Nodup
  c5 : cm.length = 5
  csh : ∀ c ∈ cm, ShAt H c.1 c.2 ∧ okS l 4 false c.2
  com : ∀ k ∈ rows, ∀ f ∈ k.fds, Com nm cm f
  rnd : ∀ k ∈ rows, (k.fds.map (·.1)).Nodup
  l0 : 0 < l.length
  l1 : l.length ≤ 1000
theorem KArg.gr {H H' : Hp} {b r fl nl cl bs : Addr} {rows : List FRow} {nm : List Str} {cm : List (V × Shp)} {l : List Str} (A : KArg H b r fl nl cl bs rows nm cm l) (g : Gr b H H') (B' : Box H' b r) : KArg H' b r fl nl cl bs rows nm cm l := by
  obtain ⟨xs, e⟩ := A.B.lst
  exact ⟨B', g _ _ A.nfl A.hfl, g _ _ A.nnl A.hnl, g _ _ A.ncl A.hcl, g _ _ A.nbs A.hbs, A.nfl, A.nnl, A.ncl, A.nbs, fun k m => (A.rat k m).gr (Oth.lst e) g, A.r3, A.n5, A.nnd, A.c5, fun c m => ⟨(A.csh c m).1.grO (Oth.lst e) g, (A.csh c m).2⟩, A.com, A.rnd, A.l0, A.l1⟩
section
variable {P : Program} {w : World} {K : PySem.W.Frag} {mg : Str → Option Value} {base : Heap}

def spLkind : Sp := fun vs H Q _ => ∃ (b r fl nl cl bs : Addr) (rows : List FRow) (nm : List Str) (cm : List (V × Shp)) (l : List Str) (m : Nat), vs = [.ref b, .ref fl, .ref nl, .ref cl, .ref bs, .int m] ∧ KArg H b r fl nl cl bs rows nm cm l ∧ m ≤ 4 ∧
  ∀ (t : Addr) (fds : List Fld) H', H t = none → FldAt H' t fds → 1 ≤ fds.length → fds.length ≤ 5 → (fds.map (·.1)).Nodup → (∀ f ∈ fds, f.1 ∈ nm ∧ okS l 4 false f.2.2) → (∀ k ∈ rows, ∀ f ∈ k.fds, f ∈ fds) → Gr b H H' → Box H' b r → Q (.ref t) H'
theorem ok_Lkind {f f1 f2 : Addr} {fd fd1 fd2 : FuncData} (D : Df K mg "_law_kind" s_Lkind f fd ["_law_box_here", "_law_faces", "_law_names", "_law_common", "_law_bases_here", "_law_most"]) (D_Ldraw : Df K mg "_law_draw" s_Ldraw f1 fd1 ["_law_box_here", "_law_many"])
    (D_Lshape : Df K mg "_law_shape" s_Lshape f2 fd2 ["_law_box_here", "_law_bases_here", "_law_most"]) (T : Nms mg) : FnOk P w K mg base CX0 3 f fd ["_law_box_here", "_law_faces", "_law_names", "_law_common", "_law_bases_here", "_law_most"] spLkind := by
  have G_Ldraw : FnOk P w K mg base CX0 1 f1 fd1 ["_law_box_here", "_law_many"] spLdraw := ok_Ldraw D_Ldraw T
  have G_Lshape : FnOk P w K mg base CX0 2 f2 fd2 ["_law_box_here", "_law_bases_here", "_law_most"] spLshape := ok_Lshape D_Lshape D_Ldraw T
  refine D.F.ok sc_Lkind (fun vs H Q E h => ?_) (fun cdv A outer s H vs Q E hr h => ?_)
  · obtain ⟨b, r, fl, nl, cl, bs, rows, nm, cm, l, m, rfl, _⟩ := h
    rfl
  · obtain ⟨b, r, fl, nl, cl, bs, rows, nm, cm, l, m, rfl, G, hm, q⟩ := h
    have hu := hu_of hr
    have hu0 := Nat.lt_of_le_of_lt (Nat.le_add_right _ 1) hu
    refine ⟨_, (pss_cons (ps_set (i := 6) sc_Lkind.nd rfl (.inl rfl) pe_dnewK)
      (pss_cons (ps_for PassesOwn.never rfl (pi_list (pv 1)) (pg_name (i := 7) sc_Lkind.nd rfl (.inl rfl))
       (pss_one (ps_lock (ps_for PassesOwn.never rfl (pi_keys (pv 7)) (pg_name (i := 8) sc_Lkind.nd rfl (.inl rfl))
         (pss_one (ps_dput hu (pv 6) (pv 8) (pe_dget hu (pv 7) (pv 8) (fun _ _ => rfl)) rfl))))))
      (pss_cons (ps_for PassesOwn.never rfl (pi_range1 (by rfl) T.n_range (pa_cons pe_int pa_nil)) (pg_name (i := 9) sc_Lkind.nd rfl (.inl rfl))
       (pss_one (ps_if (PW.pt (pw_and (pt_cmp (pc_dnotin hu (pe_ix ix_list (pv 2) (pv 9) (fun _ _ => rfl)) (pv 6)) rfl) (pw_and1 (pt_cmpR op_eq (pe_call G_Ldraw (hr.mono (by decide)) (by rfl) D_Ldraw.g D_Ldraw.F.kp D_Ldraw.b .nil pass0 (pa_cons (pv 0) (pa_cons pe_int pa_nil))) pe_int (nomark _)))))
         (pss_cons (ps_dput hu (pv 6) (pe_ix ix_list (pv 2) (pv 9) (fun _ _ => rfl)) (pe_ix ix_list (pv 3) (pv 9) (fun _ _ => rfl)) rfl)
          (pss_one (ps_if (pt_cmpR op_eq (pe_call G_Ldraw (hr.mono (by decide)) (by rfl) D_Ldraw.g D_Ldraw.F.kp D_Ldraw.b .nil pass0 (pa_cons (pv 0) (pa_cons pe_int pa_nil))) pe_int (nomark _))
           (pss_one (ps_dput hu (pv 6) (pe_ix ix_list (pv 2) (pv 9) (fun _ _ => rfl)) (pe_call G_Lshape (hr.mono (by decide)) (by rfl) D_Lshape.g D_Lshape.F.kp D_Lshape.b .nil pass0 (pa_cons (pv 0) (pa_cons (pv 4) (pa_cons (pv 5) pa_nil)))) rfl))
           pss_nil)))
         pss_nil)))
      (pss_cons (ps_if (pt_cmpR (op_eq_dict0 hu0) (pv 6) pe_dnewK (nomark _))
       (pss_cons (ps_set (i := 9) sc_Lkind.nd rfl (.inl rfl) (pe_call G_Ldraw (hr.mono (by decide)) (by rfl) D_Ldraw.g D_Ldraw.F.kp D_Ldraw.b .nil pass0 (pa_cons (pv 0) (pa_cons pe_int pa_nil))))
        (pss_one (ps_dput hu (pv 6) (pe_ix ix_list (pv 2) (pv 9) (fun _ _ => rfl)) (pe_ix ix_list (pv 3) (pv 9) (fun _ _ => rfl)) rfl)))
       pss_nil)
      (pss_one (ps_ret (pv 6))))))), ?_⟩
    refine fun t nt => ?_
    have ntb : t ≠ b := G.B.neb nt
    have ntr : t ≠ r := G.B.ner nt
    -- for face in faces
    refine ⟨.ref fl, rfl, fl, rfl, ⟨_, SqL.of (by rw [upd_ne (ne_of_none G.hfl nt)]; exact G.hfl)⟩, ?_⟩
    refine for_list (xs := rows.map fun k => V.ref k.da) (fun i σ H' => ∃ (y7 y8 y9 : Option V) (fds : List Fld), σ = [some (.ref b), some (.ref fl), some (.ref nl), some (.ref cl), some (.ref bs), some (.int m), some (.ref t), y7, y8, y9] ∧ H' = upd H t (.dK (fkv fds)) ∧ (fds.map (·.1)).Nodup ∧
      (∀ f ∈ fds, Com nm cm f ∧ ShAt H f.2.1 f.2.2) ∧ ∀ k ∈ rows.take i, ∀ f ∈ k.fds, f ∈ fds) ⟨none, none, none, [], rfl, rfl, List.nodup_nil, (fun f m => by cases m), (fun k m => by simp at m)⟩ ?_ ?_ ?_
    · rintro i σ H' _ ⟨_, _, _, fds, _, rfl, _⟩
      exact SqL.of (by rw [upd_ne (ne_of_none G.hfl nt)]; exact G.hfl)
    · rintro i x σ H' ex ⟨y7, y8, y9, fds, rfl, rfl, hnd, hf, hall⟩
      rw [List.getElem?_map] at ex
      cases er : rows[i]? with
      | none => rw [er] at ex; cases ex
      | some row =>
        rw [er] at ex
        cases ex
        have hm' := List.mem_of_getElem? er
        have hrat := G.rat row hm'
        have nrt : row.da ≠ t := ne_of_none hrat.at_ nt
        have hd : (upd H t (.dK (fkv fds))) row.da = some (.dK (fkv row.fds)) := by rw [upd_ne nrt]; exact hrat.at_
        refine ⟨row.da, .dK (fkv row.fds), hd, trivial, fun od => ⟨.ref row.da, rfl, row.da, od, rfl, .inl ⟨fkv row.fds, upd_same, ?_⟩⟩⟩
        have hrl : (fkv row.fds).length = row.fds.length := List.length_map ..
        refine for_it walk_keys (fun j σ H' => ∃ (y8 : Option V) (fds : List Fld), σ = [some (.ref b), some (.ref fl), some (.ref nl), some (.ref cl), some (.ref bs), some (.int m), some (.ref t), some (.ref row.da), y8, y9] ∧ H' = upd (upd H t (.dK (fkv fds))) row.da (.frz od (.dK (fkv row.fds))) ∧ (fds.map (·.1)).Nodup ∧
          (∀ f ∈ fds, Com nm cm f ∧ ShAt H f.2.1 f.2.2) ∧ (∀ k ∈ rows.take i, ∀ f ∈ k.fds, f ∈ fds) ∧ ∀ f ∈ row.fds.take j, f ∈ fds) ⟨y8, fds, rfl, rfl, hnd, hf, hall, (fun f m => by simp at m)⟩ ?_ ?_ ?_
        · rintro j σ H' _ ⟨_, fds, _, rfl, _⟩
          exact upd_same
        · rintro j x σ H3 H4 hj ⟨y8, fds, rfl, e3, hnd, hf, hall, hpre⟩ ⟨e4, k, v, e, rfl⟩
          subst e4
          subst e3
          obtain ⟨f, ef, rfl, rfl⟩ := fkv_at e
          have fm := List.mem_of_getElem? ef
          have htt : (upd (upd H t (.dK (fkv fds))) row.da (.frz od (.dK (fkv row.fds)))) t = some (.dK (fkv fds)) := by rw [upd_ne nrt.symm, upd_same]
          have few : fds.length ≤ 5 := by
            have := len_le_of_sub hnd (m := nm) fun z hz => by
              obtain ⟨y, hy, rfl⟩ := List.mem_map.mp hz
              obtain ⟨⟨j, h1, _⟩, _⟩ := hf y hy
              exact List.mem_of_getElem? h1
            rw [List.length_map, G.n5] at this
            exact this
          refine ⟨.ref row.da, rfl, .str f.1, rfl, row.da, f.2.1, rfl, .inl ⟨fkv row.fds, .inr f.1, .inr ⟨od, upd_same⟩, rfl, (fkv_val (G.rnd row hm') fm).symm⟩, .ref t, rfl, .str f.1, rfl, t, _, rfl, DPut.k (k := Sum.inr f.1) htt ?_, ?_⟩
          · rw [show (fkv fds).length = fds.length from List.length_map ..]
            exact Nat.lt_of_le_of_lt (show fds.length ≤ 1000 by omega) (by decide)
          · refine ⟨_, putFl fds f, rfl, ?_, putFl_nd hnd, fun x hx => ?_, fun k hk x hx => ?_, fun x hx => ?_⟩
            · rw [putFl_kv, upd_comm nrt, upd_upd, upd_comm nrt.symm]
            · rcases putFl_mem hx with rfl | ⟨hx, _⟩
              · exact ⟨G.com row hm' _ fm, hrat.sh _ fm⟩
              · exact hf x hx
            · by_cases ek : x.1 = f.1
              · rw [Com.eq G.nnd (hf x (hall k hk x hx)).1 (G.com row hm' f fm) ek]
                exact putFl_has fds f
              · exact putFl_old (hall k hk x hx) ek
            · rw [List.take_add_one, ef] at hx
              rcases List.mem_append.mp hx with hx | hx
              · by_cases ek : x.1 = f.1
                · rw [Com.eq G.nnd (hf x (hpre x hx)).1 (G.com row hm' f fm) ek]
                  exact putFl_has fds f
                · exact putFl_old (hpre x hx) ek
              · obtain rfl : x = f := by simpa using hx
                exact putFl_has fds _
        · rintro σ H3 ⟨y8, fds, rfl, e3, hnd, hf, hall, hpre⟩
          subst e3
          refine ⟨upd_same, some (.ref row.da), y8, y9, fds, rfl, ?_, hnd, hf, fun k hk x hx => ?_⟩
          · rw [upd_upd]
            exact upd_id (by rw [upd_ne nrt]; exact hrat.at_)
          · rw [List.take_add_one, er] at hk
            rcases List.mem_append.mp hk with hk | hk
            · exact hall k hk x hx
            · obtain rfl : k = row := by simpa using hk
              rw [hrl, List.take_length] at hpre
              exact hpre x hx
    · rintro σ H1 ⟨y7, y8, y9, fds, rfl, e1, hnd, hf, hall⟩
      rw [List.length_map, List.take_length] at hall
      have gt : Gr b H H1 := by rw [e1]; exact Gr.new nt
      have B1 : Box H1 b r := by rw [e1]; exact G.B.new nt
      have ht1 : H1 t = some (.dK (fkv fds)) := by rw [e1]; exact upd_same
      obtain ⟨bx, hbx⟩ := G.B.lst
      have hf1 : ∀ f ∈ fds, f.1 ∈ nm ∧ okS l 4 false f.2.2 ∧ ShAt H1 f.2.1 f.2.2 := fun f m => by
        obtain ⟨⟨j, h1, h2⟩, h3⟩ := hf f m
        exact ⟨List.mem_of_getElem? h1, (G.csh _ (List.mem_of_getElem? h2)).2, h3.grO (Oth.lst hbx) gt⟩
      clear e1 hf
      -- for k in range(5)
      refine ⟨5, rfl, by decide, by decide, for_range (lo := 0) (n := 5) (fun i σ H' => ∃ (y7 y8 y9 : Option V) (fds : List Fld), σ = [some (.ref b), some (.ref fl), some (.ref nl), some (.ref cl), some (.ref bs), some (.int m), some (.ref t), y7, y8, y9] ∧ H' t = some (.dK (fkv fds)) ∧ (fds.map (·.1)).Nodup ∧
        (∀ f ∈ fds, f.1 ∈ nm ∧ okS l 4 false f.2.2 ∧ ShAt H' f.2.1 f.2.2) ∧ (∀ k ∈ rows, ∀ f ∈ k.fds, f ∈ fds) ∧ Gr b H H' ∧ Box H' b r) ⟨y7, y8, y9, fds, rfl, ht1, hnd, hf1, hall, gt, B1⟩ ?_ ?_⟩
      · rintro i σ H2 hi ⟨y7, y8, y9, fds, rfl, ht, hnd, hf, hall, g, B2⟩
        have A2 := G.gr g B2
        have hni : nm[i]? = some (nm[i]'(by rw [G.n5]; exact hi)) := List.getElem?_eq_getElem _
        have hci : cm[i]? = some (cm[i]'(by rw [G.c5]; exact hi)) := List.getElem?_eq_getElem _
        generalize nm[i]'(by rw [G.n5]; exact hi) = z at hni
        generalize cm[i]'(by rw [G.c5]; exact hi) = c at hci
        have hzm := List.mem_of_getElem? hni
        have hcm := List.mem_of_getElem? hci
        have few : ∀ {fds : List Fld}, (fds.map (·.1)).Nodup → (∀ f ∈ fds, f.1 ∈ nm) → fds.length ≤ 5 := fun {fds} h1 h2 => by
          have := len_le_of_sub h1 (m := nm) fun z hz => by
            obtain ⟨y, hy, rfl⟩ := List.mem_map.mp hz
            exact h2 y hy
          rw [List.length_map, G.n5] at this
          exact this
        have atN : ∀ {H' : Hp}, H' nl = some (.lst (nm.map V.str)) → SqL K H' nl (nm.map V.str) := fun h => SqL.of h
        have an : atI (nm.map V.str) (0 + (i : Int)) = some (.str z) := at_of (j := i) (by omega) (by rw [List.getElem?_map, hni]; rfl)
        have ac : atI (cm.map (·.1)) (0 + (i : Int)) = some c.1 := at_of (j := i) (by omega) (by rw [List.getElem?_map, hci]; rfl)
        refine ⟨.ref nl, rfl, _, rfl, nl, _, _, .str z, rfl, rfl, SqL.of A2.hnl, an, .ref t, rfl, t, valV (fkv fds) (Sum.inr z), rfl, DGet.k (k := Sum.inr z) ht, _, rfl, ?_⟩
        by_cases hz : z ∈ fds.map (·.1)
        · -- it is there
          have : (valV (fkv fds) (Sum.inr z)).isSome = true := by
            obtain ⟨f, hfm, rfl⟩ := List.mem_map.mp hz
            rw [fkv_val hnd hfm]
            rfl
          rw [this]
          exact iteF ⟨y7, y8, _, fds, rfl, ht, hnd, hf, hall, g, B2⟩
        · have : valV (fkv fds) (Sum.inr z) = none := valV_out (f := fun f : Fld => f.1) (g := fun f => f.2.1) hz
          rw [this]
          refine iteT ⟨.ref b, rfl, b, r, 2, rfl, B2, by decide, by decide, fun d H3 d0 d1 g3 B3 => ⟨rfl, _, rfl, ite2 (fun e => ?_) (fun e => ?_)⟩⟩
          · have A3 := A2.gr g3 B3
            have ht3 := g3 _ _ ntb ht
            obtain ⟨bx, hbx2⟩ := B2.lst
            have hf3 : ∀ f ∈ fds, f.1 ∈ nm ∧ okS l 4 false f.2.2 ∧ ShAt H3 f.2.1 f.2.2 := fun f m => ⟨(hf f m).1, (hf f m).2.1, (hf f m).2.2.grO (Oth.lst hbx2) g3⟩
            have fl5 := few hnd fun f m => (hf f m).1
            -- table[names[k]] = common[k]
            refine ⟨.ref cl, rfl, _, rfl, cl, _, _, c.1, rfl, rfl, SqL.of A3.hcl, ac, .ref t, rfl, .ref nl, rfl, _, rfl, nl, _, _, .str z, rfl, rfl, SqL.of A3.hnl, an, t, _, rfl, DPut.k (k := Sum.inr z) ht3 ?_, ?_⟩
            · rw [show (fkv fds).length = fds.length from List.length_map ..]
              exact Nat.lt_of_le_of_lt (show fds.length ≤ 1000 by omega) (by decide)
            have g4 : Gr b H (upd H3 t (.dK (putK (fkv fds) (Sum.inr z) c.1))) := (g.trans g3).upd nt
            have B4 : Box (upd H3 t (.dK (putK (fkv fds) (Sum.inr z) c.1))) b r := B3.upd ntb ntr
            have ht4 : (upd H3 t (.dK (putK (fkv fds) (Sum.inr z) c.1))) t = some (.dK (fkv (putFl fds (z, c)))) := by rw [upd_same]; exact congrArg (fun z => some (HO.dK z)) (putFl_kv fds (z, c))
            have sh4 : ∀ {v : V} {s : Shp}, ShAt H3 v s → ShAt (upd H3 t (.dK (putK (fkv fds) (Sum.inr z) c.1))) v s := fun h => h.gr (xs := []) (.inr ⟨_, ht3⟩) Gr.box
            have hf4 : ∀ f ∈ putFl fds (z, c), f.1 ∈ nm ∧ okS l 4 false f.2.2 ∧ ShAt (upd H3 t (.dK (putK (fkv fds) (Sum.inr z) c.1))) f.2.1 f.2.2 := fun f m => by
              rcases putFl_mem m with rfl | ⟨m, _⟩
              · exact ⟨hzm, (A3.csh c hcm).2, sh4 (A3.csh c hcm).1⟩
              · exact ⟨(hf3 f m).1, (hf3 f m).2.1, sh4 (hf3 f m).2.2⟩
            have hnd4 := putFl_nd (f := (z, c)) hnd
            have hall4 : ∀ k ∈ rows, ∀ f ∈ k.fds, f ∈ putFl fds (z, c) := fun k hk f hfk => putFl_old (hall k hk f hfk) fun e => hz (by rw [← (show f.1 = z from e)]; exact List.mem_map.mpr ⟨f, hall k hk f hfk, rfl⟩)
            generalize upd H3 t (.dK (putK (fkv fds) (Sum.inr z) c.1)) = H4 at g4 B4 ht4 hf4
            -- if draw(box, 2) == 1
            refine ⟨.ref b, rfl, b, r, 2, rfl, B4, by decide, by decide, fun d2 H5 d20 d21 g5 B5 => ⟨rfl, _, rfl, ite2 (fun e2 => ?_) (fun e2 => ?_)⟩⟩
            · have A5 := (G.gr g4 B4).gr g5 B5
              refine ⟨.ref b, rfl, .ref bs, rfl, .int m, rfl, b, r, bs, l, m, rfl, B5, A5.hbs, G.nbs, G.l0, G.l1, hm, fun v s H6 hv hs g6 B6 => ?_⟩
              have A6 := A5.gr g6 B6
              have ht6 := (g5.trans g6) _ _ ntb ht4
              have fl6 := few hnd4 fun f m => (hf4 f m).1
              refine ⟨.ref t, rfl, .ref nl, rfl, _, rfl, nl, _, _, .str z, rfl, rfl, SqL.of A6.hnl, an, t, _, rfl, DPut.k (k := Sum.inr z) ht6 ?_, ?_⟩
              · rw [show (fkv (putFl fds (z, c))).length = (putFl fds (z, c)).length from List.length_map ..]
                exact Nat.lt_of_le_of_lt (show (putFl fds (z, c)).length ≤ 1000 by omega) (by decide)
              obtain ⟨bx4, hbx4⟩ := B4.lst
              have sh7 : ∀ {v' : V} {s' : Shp}, ShAt H6 v' s' → ShAt (upd H6 t (.dK (putK (fkv (putFl fds (z, c))) (Sum.inr z) v))) v' s' := fun h => h.gr (xs := []) (.inr ⟨_, ht6⟩) Gr.box
              refine ⟨y7, y8, _, putFl (putFl fds (z, c)) (z, v, s), rfl, ?_, putFl_nd hnd4, fun f m => ?_, fun k hk f hfk => ?_, ((g4.trans g5).trans g6).upd nt, B6.upd ntb ntr⟩
              · rw [upd_same]
                exact congrArg (fun z => some (HO.dK z)) (putFl_kv (putFl fds (z, c)) (z, v, s))
              · rcases putFl_mem m with rfl | ⟨m, _⟩
                · exact ⟨hzm, hs, sh7 hv⟩
                · exact ⟨(hf4 f m).1, (hf4 f m).2.1, sh7 ((hf4 f m).2.2.grO (Oth.lst hbx4) (g5.trans g6))⟩
              · exact putFl_old (hall4 k hk f hfk) fun e => hz (by rw [← (show f.1 = z from e)]; exact List.mem_map.mpr ⟨f, hall k hk f hfk, rfl⟩)
            · obtain ⟨bx4, hbx4⟩ := B4.lst
              exact ⟨y7, y8, _, putFl fds (z, c), rfl, g5 _ _ ntb ht4, hnd4, fun f m => ⟨(hf4 f m).1, (hf4 f m).2.1, (hf4 f m).2.2.grO (Oth.lst hbx4) g5⟩, hall4, g4.trans g5, B5⟩
          · obtain ⟨bx, hbx2⟩ := B2.lst
            exact ⟨y7, y8, _, fds, rfl, g3 _ _ ntb ht, hnd, fun f m => ⟨(hf f m).1, (hf f m).2.1, (hf f m).2.2.grO (Oth.lst hbx2) g3⟩, hall, g.trans g3, B3⟩
      · rintro σ H2 ⟨y7, y8, y9, fds, rfl, ht, hnd, hf, hall, g, B2⟩
        have few : ∀ {fds : List Fld}, (fds.map (·.1)).Nodup → (∀ f ∈ fds, f.1 ∈ nm) → fds.length ≤ 5 := fun {fds} h1 h2 => by
          have := len_le_of_sub h1 (m := nm) fun z hz => by
            obtain ⟨y, hy, rfl⟩ := List.mem_map.mp hz
            exact h2 y hy
          rw [List.length_map, G.n5] at this
          exact this
        have fl5 := few hnd fun f m => (hf f m).1
        -- if table == {}
        refine ⟨.ref t, rfl, fun p np => ⟨t, p, fkv fds, rfl, rfl, by rw [upd_ne (ne_of_none ht np)]; exact ht, upd_same, _, rfl, ite2 (fun e => ?_) (fun e => ?_)⟩⟩
        · have e0 : fds = [] := by
            have h1 : (fkv fds).length = 0 := eq_of_beq e
            rw [show (fkv fds).length = fds.length from List.length_map ..] at h1
            exact List.length_eq_zero_iff.mp h1
          subst e0
          have g3 : Gr b H (upd H2 p (.dK [])) := g.trans (Gr.new np)
          have B3 : Box (upd H2 p (.dK [])) b r := B2.new np
          have ht3 : (upd H2 p (.dK [])) t = some (.dK (fkv [])) := by rw [upd_ne (ne_of_none ht np)]; exact ht
          generalize upd H2 p (.dK []) = H3 at g3 B3 ht3
          refine ⟨.ref b, rfl, b, r, 5, rfl, B3, by decide, by decide, fun k H4 k0 k1 g4 B4 => ?_⟩
          obtain ⟨k, rfl⟩ := Int.eq_ofNat_of_zero_le k0
          have hk5 : k < 5 := by omega
          have A4 := (G.gr g3 B3).gr g4 B4
          have hni : nm[k]? = some (nm[k]'(by rw [G.n5]; exact hk5)) := List.getElem?_eq_getElem _
          have hci : cm[k]? = some (cm[k]'(by rw [G.c5]; exact hk5)) := List.getElem?_eq_getElem _
          generalize nm[k]'(by rw [G.n5]; exact hk5) = z at hni
          generalize cm[k]'(by rw [G.c5]; exact hk5) = c at hci
          have an : atI (nm.map V.str) (k : Int) = some (.str z) := atI_nat (by rw [List.getElem?_map, hni]; rfl)
          have ac : atI (cm.map (·.1)) (k : Int) = some c.1 := atI_nat (by rw [List.getElem?_map, hci]; rfl)
          have ht4 := g4 _ _ ntb ht3
          refine ⟨.ref cl, rfl, _, rfl, cl, _, _, c.1, rfl, rfl, SqL.of A4.hcl, ac, .ref t, rfl, .ref nl, rfl, _, rfl, nl, _, _, .str z, rfl, rfl, SqL.of A4.hnl, an, t, _, rfl, DPut.k (k := Sum.inr z) ht4 (by show 0 < sizeLine; decide), ?_⟩
          have sh5 := (A4.csh c (List.mem_of_getElem? hci)).1.gr (xs := []) (H' := upd H4 t (.dK (putK (fkv []) (Sum.inr z) c.1))) (.inr ⟨_, ht4⟩) Gr.box
          refine ⟨.ref t, rfl, q t [(z, c)] _ nt ⟨?_, fun f m => ?_⟩ (Nat.le_refl 1) (by show 1 ≤ 5; decide) (by simp) (fun f m => ?_) (fun k' hk' f hf' => absurd (hall k' hk' f hf') (by simp)) ((g3.trans g4).upd nt) (B4.upd ntb ntr)⟩
          · rw [upd_same]
            rfl
          · obtain rfl := List.mem_singleton.mp m
            exact sh5
          · obtain rfl := List.mem_singleton.mp m
            exact ⟨List.mem_of_getElem? hni, (A4.csh c (List.mem_of_getElem? hci)).2⟩
        · have h1 : fds ≠ [] := fun z => by
            subst z
            exact e rfl
          have hp : 1 ≤ fds.length := List.length_pos_iff.mpr h1
          have sm := same_new (o := .dK []) np
          refine ⟨.ref t, rfl, q t fds _ nt ⟨sm _ _ ht, fun f m => (hf f m).2.2.same sm⟩ hp fl5 hnd (fun f m => ⟨(hf f m).1, (hf f m).2.1⟩) hall (g.trans (Gr.new np)) (B2.new np)⟩
end
end NW
namespace NW
open PySem PySem.Spec PyProof.Rows L2
open TL (tl)
abbrev s_Lwords : Stmt := topS 51
abbrev N_Lwords : List Str := ["_law_box_here", "_law_many", "_law_letters", "_law_shift", "_law_front", "_law_words_here", "_law_k", "_law_size", "_law_rest", "_law_sign", "_law_word", "_law_j"]
theorem sc_Lwords : FnScope N_Lwords ["_law_box_here", "_law_many"] (defScope s_Lwords) := ⟨rfl, rfl, rfl, by decide +kernel, rfl, by decide +kernel, by decide +kernel⟩
section
variable {P : Program} {w : World} {K : PySem.W.Frag} {mg : Str → Option Value} {base : Heap}
def spLwords : Sp := fun vs H Q _ => ∃ (b r : Addr) (n : Nat), vs = [.ref b, .int n] ∧ Box H b r ∧ n ≤ 26 ∧
  ∀ (ws : List Str) (p : Addr) H', ws.length = n → (∀ z ∈ ws, IsName z ∧ z ≠ "text" ∧ z ≠ "number") → ws.Nodup → Gr b H H' → Box H' b r → H p = none → H' p = some (.lst (ws.map V.str)) → Q (.ref p) H'
theorem ok_Lwords {f f1 : Addr} {fd fd1 : FuncData} (D : Df K mg "_law_words" s_Lwords f fd ["_law_box_here", "_law_many"]) (D_Ldraw : Df K mg "_law_draw" s_Ldraw f1 fd1 ["_law_box_here", "_law_many"]) (T : Nms mg) : FnOk P w K mg base CX0 2 f fd ["_law_box_here", "_law_many"] spLwords := by
  have G_Ldraw : FnOk P w K mg base CX0 1 f1 fd1 ["_law_box_here", "_law_many"] spLdraw := ok_Ldraw D_Ldraw T
  refine D.F.ok sc_Lwords (fun vs H Q E h => ?_) (fun cdv A outer s H vs Q E hr h => ?_)
  · obtain ⟨b, r, m, rfl, _⟩ := h
    rfl
  · obtain ⟨b, r, n, rfl, B, hn, q⟩ := h
    refine ⟨_, (pss_cons (ps_set (i := 2) sc_Lwords.nd rfl (.inr rfl) pe_str)
      (pss_cons (ps_set (i := 3) sc_Lwords.nd rfl (.inl rfl) (pe_call G_Ldraw (hr.mono (by decide)) (by rfl) D_Ldraw.g D_Ldraw.F.kp D_Ldraw.b .nil pass0 (pa_cons (pv 0) (pa_cons pe_int pa_nil))))
      (pss_cons (ps_set (i := 4) sc_Lwords.nd rfl (.inl rfl) (pe_call G_Ldraw (hr.mono (by decide)) (by rfl) D_Ldraw.g D_Ldraw.F.kp D_Ldraw.b .nil pass0 (pa_cons (pv 0) (pa_cons pe_int pa_nil))))
      (pss_cons (ps_set (i := 5) sc_Lwords.nd rfl (.inl rfl) (pe_lst pa_nil))
      (pss_cons (ps_for PassesOwn.never rfl (pi_range1 (by rfl) T.n_range (pa_cons (pv 1) pa_nil)) (pg_name (i := 6) sc_Lwords.nd rfl (.inl rfl))
       (pss_cons (ps_set (i := 7) sc_Lwords.nd rfl (.inl rfl) (pe_ix ix_list (pe_lst (pa_cons pe_int (pa_cons pe_int (pa_cons pe_int (pa_cons pe_int pa_nil))))) (pe_call G_Ldraw (hr.mono (by decide)) (by rfl) D_Ldraw.g D_Ldraw.F.kp D_Ldraw.b .nil pass0 (pa_cons (pv 0) (pa_cons pe_int pa_nil))) (fun _ _ => rfl)))
        (pss_cons (ps_set (i := 8) sc_Lwords.nd rfl (.inl rfl) (pe_join pe_str (pe_lc (own := [("_law_j", 11)]) (g := (gName 11)) (tt := tYes) rfl sc_Lwords.nd (pi_range1 (by rfl) T.n_range (pa_cons (pv 7) pa_nil)) (blkOk_by (own := [("_law_j", 11)]) (N := N_Lwords) (sc := defScope s_Lwords) (by decide +kernel)) (fun _ _ _ _ _ => (pg_name (i := 11) sc_Lwords.nd rfl (.inl rfl))) (fun _ _ _ _ _ => pts_nil) (fun _ _ _ _ _ => (pe_ix ix_str (pv 2) (pe_call G_Ldraw (hr.mono (by decide)) (by rfl) D_Ldraw.g D_Ldraw.F.kp D_Ldraw.b .nil pass0 (pa_cons (pv 0) (pa_cons pe_int pa_nil))) (fun _ _ => rfl))))))
        (pss_cons (ps_set (i := 9) sc_Lwords.nd rfl (.inl rfl) (pe_ix ix_str (pv 2) (pe_op op_modN (pe_callTy call_int1 (by rfl) T.n_int (by decide +kernel) (pa_cons (pe_op op_add (pv 3) (pv 6)) pa_nil)) pe_int) (fun _ _ => rfl)))
        (pss_cons (ps_set (i := 10) sc_Lwords.nd rfl (.inl rfl) (pe_ix ix_list (pe_lst (pa_cons (pe_op op_add_str (pv 8) (pv 9)) (pa_cons (pe_op op_add_str (pv 9) (pv 8)) pa_nil))) (pv 4) (fun _ _ => rfl)))
        (pss_one (ps_expr (pe_bm PySem.F.plainAttrs_list PySem.F.slot_list_append PySem.F.type_list_append mt_append (pv 5) (pa_cons (pe_ix ix_list (pe_lst (pa_cons (pv 10) (pa_cons (pv 9) pa_nil))) (pe_callTy call_int1 (by rfl) T.n_int (by decide +kernel) (pa_cons (pe_or (pe_cmpR op_eq (pv 10) pe_str (nomark _)) (pe_one (pe_cmpR op_eq (pv 10) pe_str (nomark _)))) pa_nil)) (fun _ _ => rfl)) pa_nil)))))))))
      (pss_one (ps_ret (pv 5)))))))), ?_⟩

    -- shift, front, words = []
    refine ⟨.ref b, rfl, b, r, 26, rfl, B, by decide, by decide, fun sh H1 h10 h11 g1 B1 => ?_⟩
    refine ⟨.ref b, rfl, b, r, 2, rfl, B1, by decide, by decide, fun fr H2 h20 h21 g2 B2 => ?_⟩
    refine ⟨Nat.zero_le _, fun p np => ?_⟩
    obtain ⟨sh, rfl⟩ := Int.eq_ofNat_of_zero_le h10
    obtain ⟨fr, rfl⟩ := Int.eq_ofNat_of_zero_le h20
    have hsh : sh < 26 := by omega
    have hfr : fr < 2 := by omega
    have g02 : Gr b H H2 := g1.trans g2
    have npb := B2.neb np
    have npr := B2.ner np
    have np0 : H p = none := g02.free npb np
    -- for k in range(many)
    refine ⟨.int n, rfl, n, rfl, by omega, by omega, for_range (lo := 0) (n := n) (fun i σ H' => ∃ y6 y7 y8 y9 y10 ws, σ = [some (.ref b), some (.int n), some (.str LET), some (.int sh), some (.int fr), some (.ref p), y6, y7, y8, y9, y10, none] ∧ ws.length = i ∧ WordsOk fr sh ws ∧ Gr b H H' ∧ Box H' b r ∧ H' p = some (.lst (ws.map V.str))) ?_ ?_ ?_⟩
    · exact ⟨none, none, none, none, none, [], rfl, rfl, fun k h => absurd h (Nat.not_lt_zero _), g02.trans (Gr.new np), B2.new np, upd_same⟩
    · rintro i σ H3 hi ⟨y6, y7, y8, y9, y10, ws, rfl, hl, hw, g3, B3, e3⟩
      -- size
      refine ⟨by show 4 ≤ sizeLine; decide, fun q1 nq1 => ?_⟩
      have n1b := B3.neb nq1
      refine ⟨.ref b, rfl, b, r, 4, rfl, B3.new nq1, by decide, by decide, fun d H4 d0 d1 g4 B4 => ?_⟩
      have hd : ∃ sz : Nat, sz ≤ 7 ∧ atI [V.int 0, V.int 1, V.int 2, V.int 7] d = some (.int sz) := by
        obtain ⟨j, rfl⟩ := Int.eq_ofNat_of_zero_le d0
        have hj : j < 4 := by omega
        match j, hj with
        | 0, _ => exact ⟨0, by decide, rfl⟩
        | 1, _ => exact ⟨1, by decide, rfl⟩
        | 2, _ => exact ⟨2, by decide, rfl⟩
        | 3, _ => exact ⟨7, by decide, rfl⟩
      obtain ⟨sz, hsz, hat⟩ := hd
      refine ⟨q1, _, d, .int sz, rfl, rfl, SqL.of (g4 _ _ n1b upd_same), hat, ?_⟩
      have g04 : Gr b H H4 := (g3.trans (Gr.new nq1)).trans g4
      have e4 : H4 p = some (.lst (ws.map V.str)) := g4 _ _ npb (by rw [upd_ne (ne_of_none e3 nq1)]; exact e3)
      -- rest = ''.join(..)
      refine ⟨⟨_, rfl⟩, .int sz, rfl, sz, rfl, by omega, by omega, fun D nD => ?_⟩
      have nDb := B4.neb nD
      have nDp : p ≠ D := ne_of_none e4 nD
      refine lc_range (lo := 0) (n := sz) (fun j H' => ∃ cs : List Nat, cs.length = j ∧ (∀ c ∈ cs, 97 ≤ c ∧ c ≤ 122) ∧ Gr b H H' ∧ Box H' b r ∧ H' p = some (.lst (ws.map V.str)) ∧ H' D = some (.lst ((cs.map fun c => sgn c).map V.str))) ?_ ?_ ?_
      · exact ⟨[], rfl, (fun c h => by cases h), g04.trans (Gr.new nD), B4.new nD, by rw [upd_ne nDp]; exact e4, upd_same⟩
      · rintro j H5 hj ⟨cs, hcl, hcs, g5, B5, e5, eD⟩
        refine ⟨rfl, lcT ?_⟩
        refine ⟨.str LET, rfl, .ref b, rfl, b, r, 26, rfl, B5, by decide, by decide, fun c H6 c0 c1 g6 B6 => ?_⟩
        obtain ⟨c, rfl⟩ := Int.eq_ofNat_of_zero_le c0
        refine ⟨LET, c, 97 + c, rfl, rfl, let_len, atI_nat (let_at (by omega)), ?_⟩
        have eD6 := g6 _ _ nDb eD
        refine ⟨_, eD6, ?_, cs ++ [97 + c], ?_, ?_, ?_, ?_, ?_, ?_⟩
        · rw [List.length_map, List.length_map]
          exact Nat.lt_of_le_of_lt (show cs.length ≤ 1000 by omega) (by decide)
        · rw [List.length_append, hcl]; rfl
        · intro x hx
          rcases List.mem_append.mp hx with hx | hx
          · exact hcs x hx
          · have := List.mem_singleton.mp hx
            omega
        · exact (g5.trans g6).upd (g04.free nDb nD)
        · exact B6.upd nDb (B4.ner nD)
        · rw [upd_ne nDp]
          exact g6 _ _ npb e5
        · rw [upd_same, List.map_append, List.map_append]
          rfl
      · rintro H5 ⟨cs, hcl, hcs, g5, B5, e5, eD⟩
        refine ⟨"", D, cs.map fun c => sgn c, rfl, rfl, .inl (SqL.of eD), ?_, ?_⟩
        · rw [show ((cs.map fun c => sgn c).map fun x => x.length) = (cs.map fun c => sgn c).map Str.length from rfl, sgn_sum, List.length_map]
          have : ("" : Str).length = 0 := by decide +kernel
          rw [this]
          omega
        generalize hrest : Txt.join "" (cs.map fun c => sgn c) = rest
        have htl : tl rest = cs := by rw [← hrest, joinE]
        have hrl : rest.length = cs.length := by rw [len_tl, htl]
        -- sign
        have hm := fmod_range (a := (sh : Int) + (0 + i)) (show (0 : Int) < 26 by decide)
        have em : ((sh : Int) + (0 + i)).fmod 26 = (((sh + i) % 26 : Nat) : Int) := by
          rw [Int.fmod_eq_emod_of_nonneg _ (by decide)]
          omega
        refine ⟨.str LET, rfl, .int sh, rfl, .int (0 + i), rfl, _, _, rfl, rfl, .inl ⟨_, rfl, _, _, rfl, rfl, nz rfl, LET, _, 97 + (sh + i) % 26, rfl, rfl, let_len, ?_, ?_⟩⟩
        · show atI LET.cps.toList (((sh : Int) + (0 + i)).fmod 26) = _
          rw [em]
          exact atI_nat (let_at (Nat.mod_lt _ (by decide)))
        have ht26 : (sh + i) % 26 < 26 := Nat.mod_lt _ (by decide)
        -- word
        have lens : rest.length + (sgn (97 + (sh + i) % 26)).length ≤ sizeLine := by
          rw [hrl, show (sgn (97 + (sh + i) % 26)).length = 1 from rfl]
          exact Nat.le_trans (show cs.length + 1 ≤ 1000 by omega) (by decide)
        refine ⟨.str rest, rfl, .str (sgn _), rfl, _, _, rfl, rfl, lens, .str (sgn _), rfl, .str rest, rfl, _, _, rfl, rfl, by omega, ?_⟩
        refine ⟨by show 2 ≤ sizeLine; decide, fun q2 nq2 => ?_⟩
        generalize ht : (sh + i) % 26 = t at *
        refine ⟨.int fr, rfl, q2, _, fr, .str (if fr = 0 then rest ++ sgn (97 + t) else sgn (97 + t) ++ rest), rfl, rfl, SqL.of upd_same, ?_, ?_⟩
        · match fr, hfr with
          | 0, _ => rfl
          | 1, _ => rfl
        -- words.append(..)
        have n2p : p ≠ q2 := ne_of_none e5 nq2
        have e6 : (upd H5 q2 (.lst [V.str (rest ++ sgn (97 + t)), V.str (sgn (97 + t) ++ rest)])) p = some (.lst (ws.map V.str)) := by rw [upd_ne n2p]; exact e5
        have g6 : Gr b H (upd H5 q2 (.lst [V.str (rest ++ sgn (97 + t)), V.str (sgn (97 + t) ++ rest)])) := g5.trans (Gr.new nq2)
        have B6 : Box (upd H5 q2 (.lst [V.str (rest ++ sgn (97 + t)), V.str (sgn (97 + t) ++ rest)])) b r := B5.new nq2
        generalize upd H5 q2 (.lst [V.str (rest ++ sgn (97 + t)), V.str (sgn (97 + t) ++ rest)]) = H6 at *
        generalize hword : (if fr = 0 then rest ++ sgn (97 + t) else sgn (97 + t) ++ rest) = word
        refine ⟨.ref p, rfl, .inl ⟨rfl, _, SqL.of e6⟩, .str word, rfl, .str (sgn _), rfl, by show 2 ≤ sizeLine; decide, fun q3 nq3 => ?_⟩
        have n3p : p ≠ q3 := ne_of_none e6 nq3
        have e7 : (upd H6 q3 (.lst [V.str word, V.str (sgn (97 + t))])) p = some (.lst (ws.map V.str)) := by rw [upd_ne n3p]; exact e6
        have fin : ∀ z, GoodW fr t z → ∃ y6 y7 y8 y9 y10 ws', ([some (V.ref b), some (V.int n), some (V.str LET), some (V.int sh), some (V.int fr), some (V.ref p), some (V.int (0 + i)), some (V.int sz), some (V.str rest), some (V.str (sgn (97 + t))), some (V.str word), none] : L2.St) = [some (V.ref b), some (V.int n), some (V.str LET), some (V.int sh), some (V.int fr), some (V.ref p), y6, y7, y8, y9, y10, none] ∧ ws'.length = i + 1 ∧ WordsOk fr sh ws' ∧ Gr b H (upd (upd H6 q3 (.lst [V.str word, V.str (sgn (97 + t))])) p (.lst (ws.map V.str ++ [V.str z]))) ∧ Box (upd (upd H6 q3 (.lst [V.str word, V.str (sgn (97 + t))])) p (.lst (ws.map V.str ++ [V.str z]))) b r ∧ (upd (upd H6 q3 (.lst [V.str word, V.str (sgn (97 + t))])) p (.lst (ws.map V.str ++ [V.str z]))) p = some (.lst (ws'.map V.str)) := by
          intro z hz
          refine ⟨_, _, _, _, _, ws ++ [z], rfl, ?_, ?_, ?_, ?_, ?_⟩
          · rw [List.length_append, hl]; rfl
          · exact hw.snoc (by rw [hl, ht]; exact hz)
          · exact (g6.trans (Gr.new nq3)).upd np0
          · exact (B6.new nq3).upd npb npr
          · rw [upd_same, List.map_append]; rfl
        have lw : (ws.map V.str).length < sizeLine := by
          rw [List.length_map]
          exact Nat.lt_of_le_of_lt (show ws.length ≤ 1000 by omega) (by decide)
        refine ⟨.str word, rfl, rfl, _, rfl, ite2 (fun e => ?_) (fun e => ?_)⟩
        · refine .inr ⟨true, rfl, q3, _, _, .str (sgn (97 + t)), rfl, rfl, SqL.of upd_same, rfl, p, _, _, rfl, rfl, e7, lw, fin _ (sgn_good ht26)⟩
        · have nt : word ≠ "text" := fun z => e (decide_eq_true (congrArg V.str z))
          refine ⟨.str word, rfl, rfl, .inr ⟨_, rfl, ?_⟩⟩
          by_cases e2 : word = ("number" : Str)
          · rw [decide_eq_true (congrArg V.str e2)]
            exact ⟨q3, _, _, .str (sgn (97 + t)), rfl, rfl, SqL.of upd_same, rfl, p, _, _, rfl, rfl, e7, lw, fin _ (sgn_good ht26)⟩
          · rw [decide_eq_false (fun z => e2 (V.str.inj z))]
            refine ⟨q3, _, _, .str word, rfl, rfl, SqL.of upd_same, rfl, p, _, _, rfl, rfl, e7, lw, fin _ ?_⟩
            rw [← hword] at nt e2 ⊢
            exact word_good ht26 htl (by omega) hcs nt e2
    · rintro σ H3 ⟨y6, y7, y8, y9, y10, ws, rfl, hl, hw, g3, B3, e3⟩
      refine ⟨.ref p, rfl, q ws p H3 hl (fun z hz => ?_) (hw.nodup (by omega)) g3 B3 np0 e3⟩
      obtain ⟨k, hk, rfl⟩ := List.getElem_of_mem hz
      exact ⟨(hw k hk).nm, (hw k hk).nt, (hw k hk).nn⟩
end
end NW
namespace NW
open PySem PySem.Spec PyProof.Rows L2
open TL (tl)
open StX (pa_star)
abbrev s_Lschema : Stmt := topS 54
abbrev N_Lschema : List Str := ["_law_box_here", "_law_most", "_law_kinds", "_law_many", "_law_words_here", "_law_names", "_law_faces", "_law_unions", "_law_bases_here", "_law_common", "_law_face_table", "_law_face", "_law_k", "_law_at", "_law_row", "_law_kind_table", "_law_having", "_law_given", "_law_union_table", "_law_union", "_law_own", "_law_j", "_law_word"]
theorem sc_Lschema : FnScope N_Lschema ["_law_box_here", "_law_most", "_law_kinds"] (defScope s_Lschema) := ⟨rfl, rfl, rfl, by decide +kernel, rfl, by decide +kernel, by decide +kernel⟩
theorem cut_nat {xs : List V} {i j : Nat} (hi : i ≤ xs.length) (hj : j ≤ xs.length) : cutV xs (some (i : Int)) (some (j : Int)) = (xs.drop i).take (j - i) := by
  unfold cutV
  rw [HT.sIx_nat, HT.sIx_nat, Nat.min_eq_left hi, Nat.min_eq_left hj]
theorem cut_to {xs : List V} {j : Nat} (hj : j ≤ xs.length) : cutV xs none (some (j : Int)) = xs.take j := by
  unfold cutV
  rw [HT.sIx_nat, HT.sIx_none, Nat.min_eq_left hj, List.drop_zero, Nat.sub_zero]
theorem cut_to' {xs : List V} {j : Nat} : cutV xs none (some (j : Int)) = xs.take j := by
  unfold cutV
  rw [HT.sIx_nat, HT.sIx_none, List.drop_zero, Nat.sub_zero, List.take_eq_take_iff]
  omega
/-- all that is no dict stands, but for the box -/
def Gl (b : Addr) (H H' : Hp) : Prop := ∀ a o, a ≠ b → (∀ kvs, o ≠ .dK kvs) → H a = some o → H' a = some o
theorem Gr.gl {b : Addr} {H H' : Hp} (g : Gr b H H') : Gl b H H' := fun a o n _ e => g a o n e
theorem Gl.trans {b : Addr} {H H1 H2 : Hp} (x : Gl b H H1) (y : Gl b H1 H2) : Gl b H H2 := fun a o n k e => y a o n k (x a o n k e)
theorem Gl.upd {b D : Addr} {H : Hp} {kvs : List (Key × V)} {o : HO} (e : H D = some (.dK kvs)) : Gl b H (upd H D o) := fun a u _ k h => by
  rw [upd_ne (ne_of h e (k _))]
  exact h
theorem Gl.sh {b : Addr} {H H' : Hp} {xs : List V} (hb : H b = some (.lst xs)) (x : Gl b H H') : ∀ {s : Shp} {v : V}, ShAt H v s → ShAt H' v s := by
  intro s
  induction s with
  | base z => intro v h; exact h
  | sure s ih =>
    rintro v ⟨a, u, e, ha, hu⟩
    exact ⟨a, u, e, x _ _ (ne_of ha hb (by intro z; cases z)) (by intro _ z; cases z) ha, ih hu⟩
  | list s ih =>
    rintro v ⟨a, u, e, ha, hu⟩
    exact ⟨a, u, e, x _ _ (ne_of ha hb (by intro z; cases z)) (by intro _ z; cases z) ha, ih hu⟩
/-- what is drawn ahead of the tables -/
structure Pre (H : Hp) (b r wl nl fl ul bs cl : Addr) (ws nm fcs uns l : List Str) (cm : List (V × Shp)) : Prop where
  B : Box H b r
  hw : H wl = some (.lst (ws.map V.str))
  hn : H nl = some (.lst (nm.map V.str))
  hf : H fl = some (.lst (fcs.map V.str))
  hu : H ul = some (.lst (uns.map V.str))
  hb : H bs = some (.lst (l.map V.str))
  hc : H cl = some (.lst (cm.map (·.1)))
  n1 : wl ≠ b
  n2 : nl ≠ b
  n3 : fl ≠ b
  n4 : ul ≠ b
  n5 : bs ≠ b
  n6 : cl ≠ b
  csh : ∀ c ∈ cm, ShAt H c.1 c.2 ∧ okS l 4 false c.2
theorem Pre.gl {H H' : Hp} {b r wl nl fl ul bs cl : Addr} {ws nm fcs uns l : List Str} {cm : List (V × Shp)} (p : Pre H b r wl nl fl ul bs cl ws nm fcs uns l cm) (g : Gl b H H') (B' : Box H' b r) : Pre H' b r wl nl fl ul bs cl ws nm fcs uns l cm := by
  obtain ⟨xs, e⟩ := p.B.lst
  exact ⟨B', g _ _ p.n1 (by intro _ z; cases z) p.hw, g _ _ p.n2 (by intro _ z; cases z) p.hn, g _ _ p.n3 (by intro _ z; cases z) p.hf, g _ _ p.n4 (by intro _ z; cases z) p.hu, g _ _ p.n5 (by intro _ z; cases z) p.hb, g _ _ p.n6 (by intro _ z; cases z) p.hc, p.n1, p.n2, p.n3, p.n4, p.n5, p.n6, fun c m => ⟨g.sh e (p.csh c m).1, (p.csh c m).2⟩⟩
theorem rows_of {frs : List FRow} : ∀ {hv : List Str}, (∀ z ∈ hv, z ∈ frs.map (·.nm)) → ∃ rows : List FRow, rows.map (·.nm) = hv ∧ ∀ k ∈ rows, k ∈ frs
  | [], _ => ⟨[], rfl, fun k m => by cases m⟩
  | z :: hv, h => by
    obtain ⟨rows, e, hr⟩ := rows_of (hv := hv) fun z m => h z (List.mem_cons_of_mem _ m)
    obtain ⟨k, hk, ek⟩ := List.mem_map.mp (h z List.mem_cons_self)
    exact ⟨k :: rows, by rw [List.map_cons, e, ek], fun x m => by
      rcases List.mem_cons.mp m with rfl | m
      · exact hk
      · exact hr x m⟩
theorem eqv_nil (ow : List Str) : PyData.eqv (.list (ow.map PyData.str)) (.list []) = (ow.length == 0) := by
  cases ow with
  | nil => simp [PyData.eqv, PyData.eqvAll]
  | cons x r => simp [PyData.eqv, PyData.eqvAll]
theorem dp_strs {K : PySem.W.Frag} {H : Hp} : ∀ (l : List Str), DpAll K H (l.map V.str) (l.map PyData.str)
  | [] => .nil
  | x :: r => .cons (.str x) (dp_strs r)
theorem lay_strs : ∀ {l : List Str}, (∀ z ∈ l, IsName z) → PyData.canLayAll0 (l.map PyData.str) = true ∧ PyData.depthAll (l.map PyData.str) ≤ 1
  | [], _ => by simp [PyData.canLayAll0, PyData.depthAll]
  | x :: r, h => by
    have ih := lay_strs (l := r) fun z m => h z (List.mem_cons_of_mem _ m)
    have hx := (h x List.mem_cons_self).tx
    simp only [List.map_cons, PyData.canLayAll0, PyData.depthAll, PyData.canLay0, PyData.depth, hx, ih.1, Bool.and_self, true_and]
    omega
theorem shaped_strs {l : List Str} (h : ∀ z ∈ l, IsName z) : SeqAt.shaped (.list (l.map PyData.str)) = true := by
  have := lay_strs h
  have h1 : (PyData.list (l.map PyData.str)).canLay0 = true := by simp [PyData.canLay0, this.1]
  have h2 : (PyData.list (l.map PyData.str)).depth ≤ 64 := by
    simp only [PyData.depth]
    omega
  exact Bool.and_eq_true_iff.mpr ⟨h1, decide_eq_true h2⟩
theorem parts_sub (ws : List Str) (many nf nu : Nat) (h : nf ≤ 3) : List.Sublist (ws.take many ++ ((ws.drop many).take nf ++ (ws.drop (many + 3)).take nu)) ws := by
  have e1 : ws = ws.take many ++ ((ws.drop many).take 3 ++ ws.drop (many + 3)) := by
    rw [← List.drop_drop, List.take_append_drop, List.take_append_drop]
  conv => rhs; rw [e1]
  refine List.Sublist.append (List.Sublist.refl _) (List.Sublist.append ?_ (List.take_sublist _ _))
  exact (List.take_prefix_take_left h).sublist
theorem sub_take {α : Type} {l : List α} {i j : Nat} : ∀ x ∈ (l.drop i).take j, x ∈ l := fun x h => List.mem_of_mem_drop (List.mem_of_mem_take h)
section
variable {P : Program} {w : World} {K : PySem.W.Frag} {mg : Str → Option Value} {base : Heap}

def spLschema : Sp := fun vs H Q _ => ∃ (b r : Addr) (most kinds : Nat), vs = [.ref b, .int most, .int kinds] ∧ Box H b r ∧ most ≤ 4 ∧ 1 ≤ kinds ∧ kinds ≤ 6 ∧
  ∀ (q kt ft ut : Addr) (ks : List KRow) (fs : List FRow) (us : List URow) (root : Str) H', H' q = some (.tup [.ref kt, .ref ft, .ref ut, .str root]) → SchAt H' kt ft ut ks fs us → SchOk ks fs us root → Gr b H H' → Box H' b r → Q (.ref q) H'
theorem ok_Lschema {f f1 f2 f3 f4 : Addr} {fd fd1 fd2 fd3 fd4 : FuncData} (D : Df K mg "_law_schema" s_Lschema f fd ["_law_box_here", "_law_most", "_law_kinds"]) (D_Ldraw : Df K mg "_law_draw" s_Ldraw f1 fd1 ["_law_box_here", "_law_many"])
    (D_Lshape : Df K mg "_law_shape" s_Lshape f2 fd2 ["_law_box_here", "_law_bases_here", "_law_most"]) (D_Lwords : Df K mg "_law_words" s_Lwords f3 fd3 ["_law_box_here", "_law_many"])
    (D_Lkind : Df K mg "_law_kind" s_Lkind f4 fd4 ["_law_box_here", "_law_faces", "_law_names", "_law_common", "_law_bases_here", "_law_most"]) (T : Nms mg)
    (G_Ldraw : FnOk P w K mg base CX0 1 f1 fd1 ["_law_box_here", "_law_many"] spLdraw) (G_Lshape : FnOk P w K mg base CX0 2 f2 fd2 ["_law_box_here", "_law_bases_here", "_law_most"] spLshape) (G_Lwords : FnOk P w K mg base CX0 2 f3 fd3 ["_law_box_here", "_law_many"] spLwords)
    (G_Lkind : FnOk P w K mg base CX0 3 f4 fd4 ["_law_box_here", "_law_faces", "_law_names", "_law_common", "_law_bases_here", "_law_most"] spLkind) : FnOk P w K mg base CX0 4 f fd ["_law_box_here", "_law_most", "_law_kinds"] spLschema := by
  refine D.F.ok sc_Lschema (fun vs H Q E h => ?_) (fun cdv A outer s H vs Q E hr h => ?_)
  · obtain ⟨b, r, most, kinds, rfl, _⟩ := h
    rfl
  · obtain ⟨b, r, most, kinds, rfl, B, hmost, hk1, hk6, q⟩ := h
    have hu := hu_of hr
    refine ⟨_, (pss_cons (ps_set (i := 3) sc_Lschema.nd rfl (.inr rfl) (pe_op op_add pe_int (pe_call G_Ldraw (hr.mono (by decide)) (by rfl) D_Ldraw.g D_Ldraw.F.kp D_Ldraw.b .nil pass0 (pa_cons (pv 0) (pa_cons (pv 2) pa_nil)))))
      (pss_cons (ps_set (i := 4) sc_Lschema.nd rfl (.inr rfl) (pe_call G_Lwords (hr.mono (by decide)) (by rfl) D_Lwords.g D_Lwords.F.kp D_Lwords.b .nil pass0 (pa_cons (pv 0) (pa_cons (pe_op op_add (pv 3) pe_int) pa_nil))))
      (pss_cons (ps_set (i := 5) sc_Lschema.nd rfl (.inl rfl) (pe_call G_Lwords (hr.mono (by decide)) (by rfl) D_Lwords.g D_Lwords.F.kp D_Lwords.b .nil pass0 (pa_cons (pv 0) (pa_cons pe_int pa_nil))))
      (pss_cons (ps_set (i := 6) sc_Lschema.nd rfl (.inl rfl) (pe_slice sl_list (pv 4) (po_some (pv 3)) (po_some (pe_op op_add (pv 3) (pe_call G_Ldraw (hr.mono (by decide)) (by rfl) D_Ldraw.g D_Ldraw.F.kp D_Ldraw.b .nil pass0 (pa_cons (pv 0) (pa_cons pe_int pa_nil)))))))
      (pss_cons (ps_set (i := 7) sc_Lschema.nd rfl (.inl rfl) (pe_slice sl_list (pv 4) (po_some (pe_op op_add (pv 3) pe_int)) (po_some (pe_op op_add (pe_op op_add (pv 3) pe_int) (pe_call G_Ldraw (hr.mono (by decide)) (by rfl) D_Ldraw.g D_Ldraw.F.kp D_Ldraw.b .nil pass0 (pa_cons (pv 0) (pa_cons pe_int pa_nil)))))))
      (pss_cons (ps_set (i := 8) sc_Lschema.nd rfl (.inr rfl) (pe_op op_cat (pe_op op_cat (pe_op op_cat (pe_lst (pa_cons pe_str (pa_cons pe_str pa_nil))) (pe_slice sl_list (pv 4) po_none (po_some (pv 3)))) (pv 6)) (pv 7)))
      (pss_cons (ps_setLc (i := 9) (own := [("_law_k", 12)]) (g := (gName 12)) (tt := tYes) rfl sc_Lschema.nd rfl rfl (sw_true rfl rfl rfl (by decide +kernel)) (pi_range1 (by rfl) T.n_range (pa_cons pe_int pa_nil)) (blkOk_by (own := [("_law_k", 12)]) (N := N_Lschema) (sc := defScope s_Lschema) (by decide +kernel)) (fun _ _ _ _ _ => (pg_name (i := 12) sc_Lschema.nd rfl (.inl rfl))) (fun _ _ _ _ _ => pts_nil) (fun _ _ _ _ _ => (pe_call G_Lshape (hr.mono (by decide)) (by rfl) D_Lshape.g D_Lshape.F.kp D_Lshape.b .nil pass0 (pa_cons (pv 0) (pa_cons (pv 8) (pa_cons (pv 1) pa_nil))))))
      (pss_cons (ps_set (i := 10) sc_Lschema.nd rfl (.inr rfl) pe_dnewK)
      (pss_cons (ps_for PassesOwn.never rfl (pi_list (pv 6)) (pg_name (i := 11) sc_Lschema.nd rfl (.inl rfl))
       (pss_cons (ps_dput hu (pv 10) (pv 11) pe_dnewK rfl)
        (pss_one (ps_for PassesOwn.never rfl (pi_range1 (by rfl) T.n_range (pa_cons (pe_op op_add pe_int (pe_call G_Ldraw (hr.mono (by decide)) (by rfl) D_Ldraw.g D_Ldraw.F.kp D_Ldraw.b .nil pass0 (pa_cons (pv 0) (pa_cons pe_int pa_nil)))) pa_nil)) (pg_name (i := 12) sc_Lschema.nd rfl (.inr rfl))
         (pss_cons (ps_set (i := 13) sc_Lschema.nd rfl (.inl rfl) (pe_call G_Ldraw (hr.mono (by decide)) (by rfl) D_Ldraw.g D_Ldraw.F.kp D_Ldraw.b .nil pass0 (pa_cons (pv 0) (pa_cons pe_int pa_nil))))
          (pss_cons (ps_set (i := 14) sc_Lschema.nd rfl (.inl rfl) (pe_dget hu (pv 10) (pv 11) (fun _ _ => rfl)))
          (pss_one (ps_dput hu (pv 14) (pe_ix ix_list (pv 5) (pv 13) (fun _ _ => rfl)) (pe_ix ix_list (pv 9) (pv 13) (fun _ _ => rfl)) rfl))))))))
      (pss_cons (ps_set (i := 15) sc_Lschema.nd rfl (.inl rfl) pe_dnewK)
      (pss_cons (ps_for PassesOwn.never rfl (pi_range1 (by rfl) T.n_range (pa_cons (pv 3) pa_nil)) (pg_name (i := 12) sc_Lschema.nd rfl (.inr rfl))
       (pss_cons (ps_setLc (i := 16) (own := [("_law_j", 21), ("_law_face", 11)]) (g := gTup K 2 (gCons (gName 21) (gCons (gName 11) gNil))) rfl sc_Lschema.nd rfl rfl (sw_true rfl rfl rfl (by decide +kernel)) (pi_enum (by rfl) T.n_enumerate (pa_cons (pv 6) pa_nil)) (blkOk_by (own := [("_law_j", 21), ("_law_face", 11)]) (N := N_Lschema) (sc := defScope s_Lschema) (by decide +kernel)) (fun _ _ _ _ _ => (pg_tup (by rfl) (pgs_cons (pg_name (i := 21) sc_Lschema.nd rfl (.inl rfl)) (pgs_cons (pg_name (i := 11) sc_Lschema.nd rfl (.inl rfl)) pgs_nil)))) (fun _ _ _ _ _ => pts_one (PW.pt (pw_or (pt_cmpR op_eq (pe_op op_modN (pe_callTy call_int1 (by rfl) T.n_int (by decide +kernel) (pa_cons (pv 21) pa_nil)) (pv 3)) (pv 12) (nomark _)) (pw_or1 (pt_cmpR op_eq (pe_call G_Ldraw (hr.mono (by decide)) (by rfl) D_Ldraw.g D_Ldraw.F.kp D_Ldraw.b .nil pass0 (pa_cons (pv 0) (pa_cons pe_int pa_nil))) pe_int (nomark _)))))) (fun _ _ _ _ _ => (pv 11)))
        (pss_cons (ps_setLc (i := 17) (own := [("_law_face", 11)]) (g := (gName 11)) (tt := tYes) rfl sc_Lschema.nd rfl rfl (sw_true rfl rfl rfl (by decide +kernel)) (pi_list (pv 16)) (blkOk_by (own := [("_law_face", 11)]) (N := N_Lschema) (sc := defScope s_Lschema) (by decide +kernel)) (fun _ _ _ _ _ => (pg_name (i := 11) sc_Lschema.nd rfl (.inl rfl))) (fun _ _ _ _ _ => pts_nil) (fun _ _ _ _ _ => (pe_dget hu (pv 10) (pv 11) (fun _ _ => rfl))))
        (pss_one (ps_dput hu (pv 15) (pe_ix ix_list (pv 4) (pv 12) (fun _ _ => rfl)) (pe_tup (pa_cons (pe_callTy call_tuple_of (by rfl) T.n_tuple (by decide +kernel) (pa_cons (pv 16) pa_nil)) (pa_cons (pe_call G_Lkind (hr.mono (by decide)) (by rfl) D_Lkind.g D_Lkind.F.kp D_Lkind.b .nil pass0 (pa_cons (pv 0) (pa_cons (pv 17) (pa_cons (pv 5) (pa_cons (pv 9) (pa_cons (pv 8) (pa_cons (pv 1) pa_nil))))))) pa_nil))) rfl)))))
      (pss_cons (ps_set (i := 18) sc_Lschema.nd rfl (.inl rfl) pe_dnewK)
      (pss_cons (ps_for PassesOwn.never rfl (pi_list (pv 7)) (pg_name (i := 19) sc_Lschema.nd rfl (.inl rfl))
       (pss_cons (ps_setLc (i := 20) (own := [("_law_word", 22)]) (g := (gName 22)) rfl sc_Lschema.nd rfl rfl (sw_true rfl rfl rfl (by decide +kernel)) (pi_list (pe_slice sl_list (pv 4) po_none (po_some (pv 3)))) (blkOk_by (own := [("_law_word", 22)]) (N := N_Lschema) (sc := defScope s_Lschema) (by decide +kernel)) (fun _ _ _ _ _ => (pg_name (i := 22) sc_Lschema.nd rfl (.inl rfl))) (fun _ _ _ _ _ => pts_one (pt_cmpR op_eq (pe_call G_Ldraw (hr.mono (by decide)) (by rfl) D_Ldraw.g D_Ldraw.F.kp D_Ldraw.b .nil pass0 (pa_cons (pv 0) (pa_cons pe_int pa_nil))) pe_int (nomark _))) (fun _ _ _ _ _ => (pv 22)))
        (pss_cons (ps_set (i := 20) sc_Lschema.nd rfl (.inl rfl) (pe_op op_cat (pe_slice sl_list (pv 20) po_none (po_some pe_int)) (pe_lc (own := [("_law_k", 12)]) (g := (gName 12)) (tt := tYes) rfl sc_Lschema.nd (pi_range1 (by rfl) T.n_range (pa_cons (pe_callTy call_int1 (by rfl) T.n_int (by decide +kernel) (pa_cons (pe_cmpR (op_eqD hr.units) (pv 20) (pe_lst pa_nil) (nomark _)) pa_nil)) pa_nil)) (blkOk_by (own := [("_law_k", 12)]) (N := N_Lschema) (sc := defScope s_Lschema) (by decide +kernel)) (fun _ _ _ _ _ => (pg_name (i := 12) sc_Lschema.nd rfl (.inl rfl))) (fun _ _ _ _ _ => pts_nil) (fun _ _ _ _ _ => (pe_ix (ix_listK K) (pv 4) (pe_call G_Ldraw (hr.mono (by decide)) (by rfl) D_Ldraw.g D_Ldraw.F.kp D_Ldraw.b .nil pass0 (pa_cons (pv 0) (pa_cons (pv 3) pa_nil))) (fun _ _ => rfl))))))
        (pss_one (ps_dput hu (pv 18) (pv 19) (pe_callTy call_tuple_of (by rfl) T.n_tuple (by decide +kernel) (pa_cons (pe_revL (pv 20)) pa_nil)) rfl)))))
      (pss_one (ps_ret (pe_tup (pa_cons (pv 15) (pa_cons (pv 10) (pa_cons (pv 18) (pa_cons (pe_ix (ix_listK K) (pv 4) (pe_call G_Ldraw (hr.mono (by decide)) (by rfl) D_Ldraw.g D_Ldraw.F.kp D_Ldraw.b .nil pass0 (pa_cons (pv 0) (pa_cons (pv 3) pa_nil))) (fun _ _ => rfl)) pa_nil)))))))))))))))))))), ?_⟩
    -- many
    refine ⟨.ref b, rfl, .int kinds, rfl, b, r, kinds, rfl, B, by omega, by omega, fun d H1 d0 d1 g1 B1 => ⟨_, _, rfl, rfl, ?_⟩⟩
    obtain ⟨d, rfl⟩ := Int.eq_ofNat_of_zero_le d0
    have em : (fun (i j : Int) => V.int (i + j)) 1 (d : Int) = V.int ((d + 1 : Nat) : Int) := by
      show V.int (1 + (d : Int)) = _
      rw [show (1 + (d : Int)) = ((d + 1 : Nat) : Int) by omega]
    rw [em]
    obtain ⟨many, hmany⟩ : ∃ many, many = d + 1 := ⟨_, rfl⟩
    rw [← hmany]
    have m0 : 1 ≤ many := by omega
    have m6 : many ≤ 6 := by omega
    clear em d0 d1 hmany
    -- words, names
    refine ⟨.ref b, rfl, .int many, rfl, _, _, rfl, rfl, b, r, many + 6, ?_, B1, by omega, fun ws wl H2 hwl hwok hwnd g2 B2 nw ew => ?_⟩
    · show [V.ref b, V.int ((many : Int) + 6)] = [V.ref b, V.int ((many + 6 : Nat) : Int)]
      rw [show ((many : Int) + 6) = ((many + 6 : Nat) : Int) by omega]
    refine ⟨.ref b, rfl, b, r, 5, rfl, B2, by omega, fun nm nl H3 hnl hnok hnnd g3 B3 nn en => ?_⟩
    have nwb := B1.neb nw
    have nnb := B2.neb nn
    have ew3 := g3 _ _ nwb ew
    have lw : (ws.map V.str).length = many + 6 := by rw [List.length_map, hwl]
    -- faces
    refine ⟨.ref wl, rfl, .int many, rfl, many, rfl, .int many, rfl, .ref b, rfl, b, r, 4, rfl, B3, by decide, by decide, fun nf H4 f0 f1 g4 B4 => ?_⟩
    obtain ⟨nf, rfl⟩ := Int.eq_ofNat_of_zero_le f0
    have hnf : nf ≤ 3 := by omega
    have ew4 := g4 _ _ nwb ew3
    refine ⟨_, _, rfl, rfl, _, rfl, wl, ws.map V.str, rfl, SqL.of ew4, fun fl nfl => ?_⟩
    rw [show ((many : Int) + (nf : Int)) = ((many + nf : Nat) : Int) by omega, cut_nat (by omega) (by omega), show many + nf - many = nf by omega, ← List.map_drop, ← List.map_take]
    generalize hfcs : (ws.drop many).take nf = fcs
    have n3b := B4.neb nfl
    -- unions
    refine ⟨.ref wl, rfl, .int many, rfl, _, _, rfl, rfl, _, rfl, .int many, rfl, _, _, rfl, rfl, .ref b, rfl, b, r, 4, rfl, B4.new nfl, by decide, by decide, fun nu H5 u0 u1 g5 B5 => ?_⟩
    obtain ⟨nu, rfl⟩ := Int.eq_ofNat_of_zero_le u0
    have hnu : nu ≤ 3 := by omega
    have g45 : Gr b H4 H5 := (Gr.new nfl).trans g5
    have ew5 := g45 _ _ nwb ew4
    have ef5 := g5 _ _ n3b upd_same
    refine ⟨_, _, rfl, rfl, _, rfl, wl, ws.map V.str, rfl, SqL.of ew5, fun ul nul => ?_⟩
    show tSeq _ _ _ (List.set _ 7 _) (upd H5 ul (.lst (cutV (ws.map V.str) (some ((many : Int) + 3)) (some ((many : Int) + 3 + (nu : Int))))))
    rw [show ((many : Int) + 3) = ((many + 3 : Nat) : Int) by omega, show (((many + 3 : Nat) : Int) + (nu : Int)) = ((many + 3 + nu : Nat) : Int) by omega, cut_nat (by omega) (by omega), show many + 3 + nu - (many + 3) = nu by omega, ← List.map_drop, ← List.map_take]
    generalize huns : (ws.drop (many + 3)).take nu = uns
    have n4b := B5.neb nul
    have g6 : Gr b H5 (upd H5 ul (.lst (uns.map V.str))) := Gr.new nul
    have B6 : Box (upd H5 ul (.lst (uns.map V.str))) b r := B5.new nul
    have eu6 : (upd H5 ul (.lst (uns.map V.str))) ul = some (.lst (uns.map V.str)) := upd_same
    generalize upd H5 ul (.lst (uns.map V.str)) = H6 at g6 B6 eu6
    have ew6 := g6 _ _ nwb ew5
    have ef6 := g6 _ _ n3b ef5
    -- bases
    refine ⟨by show 2 ≤ sizeLine; decide, fun a1 na1 => ?_⟩
    have s7 : Same H6 (upd H6 a1 (.lst [V.str "number", V.str "text"])) := same_new na1
    have e71 : (upd H6 a1 (.lst [V.str "number", V.str "text"])) a1 = some (.lst [V.str "number", V.str "text"]) := upd_same
    generalize upd H6 a1 (.lst [V.str "number", V.str "text"]) = H7 at s7 e71
    refine ⟨.ref wl, rfl, .int many, rfl, many, rfl, wl, ws.map V.str, rfl, SqL.of (s7 _ _ ew6), fun a2 na2 => ?_⟩
    rw [cut_to (by omega), ← List.map_take]
    have s8 : Same H7 (upd H7 a2 (.lst ((ws.take many).map V.str))) := same_new na2
    have e82 : (upd H7 a2 (.lst ((ws.take many).map V.str))) a2 = some (.lst ((ws.take many).map V.str)) := upd_same
    generalize upd H7 a2 (.lst ((ws.take many).map V.str)) = H8 at s8 e82
    have lt : (ws.take many).length = many := by rw [List.length_take, hwl]; omega
    have lf : fcs.length = nf := by rw [← hfcs, List.length_take, List.length_drop, hwl]; omega
    have lu : uns.length = nu := by rw [← huns, List.length_take, List.length_drop, hwl]; omega
    have hS : ∀ n : Nat, n ≤ 1000 → n ≤ sizeLine := fun n h => Nat.le_trans h (by decide)
    refine ⟨a1, a2, _, _, rfl, rfl, s8 _ _ e71, e82, hS _ (by rw [List.length_map, lt]; show 2 + many ≤ 1000; omega), fun a3 na3 => ?_⟩
    have s9 : Same H8 (upd H8 a3 (.lst ([V.str "number", V.str "text"] ++ (ws.take many).map V.str))) := same_new na3
    have e93 : (upd H8 a3 (.lst ([V.str "number", V.str "text"] ++ (ws.take many).map V.str))) a3 = some (.lst ([V.str "number", V.str "text"] ++ (ws.take many).map V.str)) := upd_same
    generalize upd H8 a3 (.lst ([V.str "number", V.str "text"] ++ (ws.take many).map V.str)) = H9 at s9 e93
    have s69 : Same H6 H9 := (s7.trans s8).trans s9
    refine ⟨.ref fl, rfl, a3, fl, _, _, rfl, rfl, e93, s69 _ _ ef6, hS _ (by rw [List.length_append, List.length_map, List.length_map, lt, lf]; show 2 + many + nf ≤ 1000; omega), fun a4 na4 => ?_⟩
    refine ⟨.ref ul, rfl, a4, ul, _, _, rfl, rfl, upd_same, same_new na4 _ _ (s69 _ _ eu6), hS _ (by rw [List.length_append, List.length_append, List.length_map, List.length_map, List.length_map, lt, lf, lu]; show 2 + many + nf + nu ≤ 1000; omega), fun bs nbs => ?_⟩
    have el : ([V.str "number", V.str "text"] ++ (ws.take many).map V.str ++ fcs.map V.str ++ uns.map V.str) = (LV ++ (ws.take many ++ (fcs ++ uns))).map V.str := by
      simp only [List.map_append, List.append_assoc]
      rfl
    rw [el]
    generalize hl : LV ++ (ws.take many ++ (fcs ++ uns)) = l
    have g10 : Gr b H9 (upd (upd H9 a4 (.lst ([V.str "number", V.str "text"] ++ (ws.take many).map V.str ++ fcs.map V.str))) bs (.lst (l.map V.str))) := (Gr.new na4).trans (Gr.new nbs)
    have B9 : Box H9 b r := by
      obtain ⟨xs, e⟩ := B6.lst
      exact B6.gr (fun a o _ e => s69 a o e) ((s69 _ _ e).trans e.symm)
    have n5b := (B9.new na4).neb nbs
    have B10 : Box (upd (upd H9 a4 (.lst ([V.str "number", V.str "text"] ++ (ws.take many).map V.str ++ fcs.map V.str))) bs (.lst (l.map V.str))) b r := (B9.new na4).new nbs
    have eb10 : (upd (upd H9 a4 (.lst ([V.str "number", V.str "text"] ++ (ws.take many).map V.str ++ fcs.map V.str))) bs (.lst (l.map V.str))) bs = some (.lst (l.map V.str)) := upd_same
    generalize upd (upd H9 a4 (.lst ([V.str "number", V.str "text"] ++ (ws.take many).map V.str ++ fcs.map V.str))) bs (.lst (l.map V.str)) = H10 at g10 B10 eb10
    have g610 : Gr b H6 H10 := (gr_x s69).trans g10
    have ew10 := g610 _ _ nwb ew6
    have ef10 := g610 _ _ n3b ef6
    have eu10 := g610 _ _ n4b eu6
    have en10 := g610 _ _ nnb (g6 _ _ nnb (g45 _ _ nnb (g4 _ _ nnb en)))
    have gA : Gr b H H10 := (((g1.trans g2).trans (g3.trans g4)).trans (g45.trans g6)).trans g610
    have ll : l.length = 2 + (many + (nf + nu)) := by rw [← hl, List.length_append, List.length_append, List.length_append, lt, lf, lu]; rfl
    clear s7 e71 s8 e82 s9 e93 na1 na2 na3 na4 nbs s69 el g10 B9 g610 ew6 ef6 eu6 ew5 ef5 ew4 ew3 nul nfl g45 g6 B6
    -- common
    refine ⟨5, rfl, by decide, by decide, fun cl ncl => lc_range (lo := 0) (n := 5) (fun i H' => ∃ cm : List (V × Shp), cm.length = i ∧ (∀ c ∈ cm, ShAt H' c.1 c.2 ∧ okS l 4 false c.2) ∧ Gr b H10 H' ∧ Box H' b r ∧ H' cl = some (.lst (cm.map (·.1)))) ?_ ?_ ?_⟩
    · exact ⟨[], rfl, (fun c m => by cases m), Gr.new ncl, B10.new ncl, upd_same⟩
    · rintro i H11 hi ⟨cm, hcl, hcm, g11, B11, ec⟩
      have n6b := B10.neb ncl
      refine ⟨rfl, lcT ⟨.ref b, rfl, .ref bs, rfl, .int most, rfl, b, r, bs, l, most, rfl, B11, g11 _ _ n5b eb10, n5b, by omega, by omega, hmost, fun v s H12 hv hs g12 B12 => ⟨_, g12 _ _ n6b ec, ?_, cm ++ [(v, s)], ?_, ?_, (g11.trans g12).upd ncl, B12.upd n6b (B10.ner ncl), ?_⟩⟩⟩
      · rw [List.length_map]
        exact Nat.lt_of_le_of_lt (show cm.length ≤ 1000 by omega) (by decide)
      · rw [List.length_append, hcl]; rfl
      · intro c hc
        obtain ⟨xs, exs⟩ := B11.lst
        have ecl := g12 _ _ n6b ec
        rcases List.mem_append.mp hc with hc | hc
        · exact ⟨((hcm c hc).1.grO (Oth.lst exs) g12).grO (Oth.lst ecl) Gr.box, (hcm c hc).2⟩
        · obtain rfl := List.mem_singleton.mp hc
          exact ⟨hv.grO (Oth.lst ecl) Gr.box, hs⟩
      · rw [upd_same, List.map_append]
        rfl
    · rintro H11 ⟨cm, hcl, hcm, g11, B11, ec⟩
      have n6b := B10.neb ncl
      have P11 : Pre H11 b r wl nl fl ul bs cl ws nm fcs uns l cm := ⟨B11, g11 _ _ nwb ew10, g11 _ _ nnb en10, g11 _ _ n3b ef10, g11 _ _ n4b eu10, g11 _ _ n5b eb10, ec, nwb, nnb, n3b, n4b, n5b, n6b, hcm⟩
      have gB := gA.trans g11
      clear hcm g11 ec ew10 en10 ef10 eu10 eb10 gA B10 ncl
      -- the words' parts
      have fnd : fcs.Nodup := by rw [← hfcs]; exact (hwnd.sublist (List.drop_sublist _ _)).sublist (List.take_sublist _ _)
      have und : uns.Nodup := by rw [← huns]; exact (hwnd.sublist (List.drop_sublist _ _)).sublist (List.take_sublist _ _)
      have fsub : ∀ z ∈ fcs, z ∈ ws := fun z m => by rw [← hfcs] at m; exact sub_take z m
      have usub : ∀ z ∈ uns, z ∈ ws := fun z m => by rw [← huns] at m; exact sub_take z m
      refine fun ft nft => ?_
      have nftb := B11.neb nft
      have nftr := B11.ner nft
      have nft0 : H ft = none := gB.free nftb nft
      have P12 := P11.gl (Gr.new (o := .dK []) nft).gl (B11.new nft)
      have gC := gB.trans (Gr.new (o := .dK []) nft)
      have eft : (upd H11 ft (.dK [])) ft = some (.dK (fkvs [])) := upd_same
      generalize upd H11 ft (.dK []) = H12 at P12 gC eft
      have n6b' : cl ≠ b := n6b
      clear P11 gB B11 n6b
      refine ⟨.ref fl, rfl, fl, rfl, ⟨_, SqL.of P12.hf⟩, ?_⟩
      refine for_list (xs := fcs.map V.str) (fun i σ H' => ∃ (y11 y12 y13 y14 : Option V) (frs : List FRow), σ = [some (.ref b), some (.int most), some (.int kinds), some (.int many), some (.ref wl), some (.ref nl), some (.ref fl), some (.ref ul), some (.ref bs), some (.ref cl), some (.ref ft), y11, y12, y13, y14, none, none, none, none, none, none, none, none] ∧
        frs.map (·.nm) = fcs.take i ∧ (∀ f ∈ frs, FldAt H' f.da f.fds ∧ f.da ≠ ft ∧ H f.da = none ∧ 1 ≤ f.fds.length ∧ f.fds.length ≤ 4 ∧ (f.fds.map (·.1)).Nodup ∧ ∀ x ∈ f.fds, Com nm cm x) ∧ H' ft = some (.dK (fkvs frs)) ∧ Pre H' b r wl nl fl ul bs cl ws nm fcs uns l cm ∧ Gr b H H')
        ⟨none, none, none, none, [], rfl, rfl, (fun f m => by cases m), eft, P12, gC⟩ ?_ ?_ ?_
      · rintro i σ H' _ ⟨_, _, _, _, frs, _, _, _, _, Pz, _⟩
        exact SqL.of Pz.hf
      · rintro i x σ H1 ex ⟨y11, y12, y13, y14, frs, rfl, hnm, hat, eF, Pz, gz⟩
        rw [List.getElem?_map] at ex
        cases er : fcs[i]? with
        | none => rw [er] at ex; cases ex
        | some face =>
          rw [er] at ex
          cases ex
          have hi := (List.getElem?_eq_some_iff.mp er).1
          have hlen : frs.length = i := by
            have e := congrArg List.length hnm
            rw [List.length_map, List.length_take] at e
            omega
          have hface : face ∉ frs.map (·.nm) := by
            rw [hnm]
            have := name_new (f := fun z : Str => z) (ks := fcs) (by rw [List.map_id']; exact fnd) er
            rw [List.map_id'] at this
            exact this
          -- face_table[face] = {}
          refine fun d nd => ?_
          have ndb := Pz.B.neb nd
          have ndr := Pz.B.ner nd
          have nd0 : H d = none := gz.free ndb nd
          have ndf : d ≠ ft := (ne_of_none eF nd).symm
          refine ⟨.ref ft, rfl, .str face, rfl, ft, _, rfl, DPut.k (k := Sum.inr face) (kvs := fkvs frs) (by rw [upd_ne (ne_of_none eF nd)]; exact eF) ?_, ?_⟩
          · rw [show (fkvs frs).length = frs.length from List.length_map ..]
            exact Nat.lt_of_le_of_lt (show frs.length ≤ 1000 by omega) (by decide)
          have eput : putK (fkvs frs) (Sum.inr face) (.ref d) = fkvs (frs ++ [⟨face, d, []⟩]) := put_snoc (f := fun k : FRow => k.nm) (g := fun k => V.ref k.da) (r := ⟨face, d, []⟩) hface
          rw [eput]
          have eF0 : (upd H1 d (.dK [])) ft = some (.dK (fkvs frs)) := by rw [upd_ne (ne_of_none eF nd)]; exact eF
          have P2 : Pre (upd (upd H1 d (.dK [])) ft (.dK (fkvs (frs ++ [⟨face, d, []⟩])))) b r wl nl fl ul bs cl ws nm fcs uns l cm := (Pz.gl (Gr.new nd).gl (Pz.B.new nd)).gl (Gl.upd eF0) ((Pz.B.new nd).upd nftb nftr)
          have g2' : Gr b H (upd (upd H1 d (.dK [])) ft (.dK (fkvs (frs ++ [⟨face, d, []⟩])))) := (gz.trans (Gr.new nd)).upd nft0
          have hat2 : ∀ f ∈ frs, FldAt (upd (upd H1 d (.dK [])) ft (.dK (fkvs (frs ++ [⟨face, d, []⟩])))) f.da f.fds ∧ f.da ≠ d := fun f m => ⟨((hat f m).1.same (same_new nd)).put eF0 (hat f m).2.1, ne_of_none (hat f m).1.at_ nd⟩
          have eF2 : (upd (upd H1 d (.dK [])) ft (.dK (fkvs (frs ++ [⟨face, d, []⟩])))) ft = some (.dK (fkvs (frs ++ [⟨face, d, []⟩]))) := upd_same
          have ed2 : FldAt (upd (upd H1 d (.dK [])) ft (.dK (fkvs (frs ++ [⟨face, d, []⟩])))) d [] := ⟨by rw [upd_ne ndf, upd_same]; rfl, fun f m => by cases m⟩
          generalize upd (upd H1 d (.dK [])) ft (.dK (fkvs (frs ++ [⟨face, d, []⟩]))) = H2 at P2 g2' hat2 eF2 ed2
          -- for k in range(1 + draw(box, 2))
          refine ⟨.ref b, rfl, b, r, 2, rfl, P2.B, by decide, by decide, fun n H3 n0 n1 g3 B3 => ?_⟩
          obtain ⟨n, rfl⟩ := Int.eq_ofNat_of_zero_le n0
          have hn : n < 2 := by omega
          refine ⟨_, _, rfl, rfl, (1 + (n : Int)), rfl, by omega, by omega, ?_⟩
          rw [show ((1 : Int) + (n : Int)).toNat = n + 1 by omega]
          have P3 := P2.gl g3.gl B3
          obtain ⟨bx, ebx⟩ := P2.B.lst
          refine for_range (lo := 0) (n := n + 1) (fun j σ H' => ∃ (y12 y13 y14 : Option V) (fds : List Fld), σ = [some (.ref b), some (.int most), some (.int kinds), some (.int many), some (.ref wl), some (.ref nl), some (.ref fl), some (.ref ul), some (.ref bs), some (.ref cl), some (.ref ft), some (.str face), y12, y13, y14, none, none, none, none, none, none, none, none] ∧
            FldAt H' d fds ∧ (fds.map (·.1)).Nodup ∧ (∀ x ∈ fds, Com nm cm x) ∧ fds.length ≤ j ∧ (0 < j → 1 ≤ fds.length) ∧ (∀ f ∈ frs, FldAt H' f.da f.fds) ∧ H' ft = some (.dK (fkvs (frs ++ [⟨face, d, []⟩]))) ∧ Pre H' b r wl nl fl ul bs cl ws nm fcs uns l cm ∧ Gr b H H')
            ⟨y12, y13, y14, [], rfl, ed2.gr (Oth.lst ebx) g3, List.nodup_nil, (fun x m => by cases m), Nat.le_refl _, (fun h => absurd h (Nat.lt_irrefl _)), fun f m => (hat2 f m).1.gr (Oth.lst ebx) g3, g3 _ _ nftb eF2, P3, g2'.trans g3⟩ ?_ ?_
          · rintro j σ H4 hj ⟨y12, y13, y14, fds, rfl, hd, hnd, hcom, hl1, hl2, hold, eF4, P4, g4⟩
            refine ⟨.ref b, rfl, b, r, 5, rfl, P4.B, by decide, by decide, fun at_ H5 a0 a1 g5 B5 => ?_⟩
            obtain ⟨at_, rfl⟩ := Int.eq_ofNat_of_zero_le a0
            have ha5 : at_ < 5 := by omega
            obtain ⟨bx4, ebx4⟩ := P4.B.lst
            have P5 := P4.gl g5.gl B5
            have hd5 := hd.gr (Oth.lst ebx4) g5
            have eF5 := g5 _ _ nftb eF4
            have hni : nm[at_]? = some (nm[at_]'(by omega)) := List.getElem?_eq_getElem _
            have hci : cm[at_]? = some (cm[at_]'(by omega)) := List.getElem?_eq_getElem _
            generalize nm[at_]'(by omega) = z at hni
            generalize cm[at_]'(by omega) = c at hci
            have an : atI (nm.map V.str) (at_ : Int) = some (.str z) := atI_nat (by rw [List.getElem?_map, hni]; rfl)
            have ac : atI (cm.map (·.1)) (at_ : Int) = some c.1 := atI_nat (by rw [List.getElem?_map, hci]; rfl)
            have vF : valV (fkvs (frs ++ [⟨face, d, []⟩])) (Sum.inr face) = some (.ref d) := fkvs_val (k := ⟨face, d, []⟩) (by
              rw [List.map_append]
              exact List.nodup_append.mpr ⟨by rw [hnm]; exact fnd.sublist (List.take_sublist _ _), by simp, fun a ha b hb e => hface (by rw [show face = a from (e.trans (List.mem_singleton.mp hb)).symm]; exact ha)⟩) (List.mem_append_right _ (List.mem_singleton.mpr rfl))
            refine ⟨.ref ft, rfl, .str face, rfl, ft, .ref d, rfl, .inl ⟨_, .inr face, .inl eF5, rfl, vF.symm⟩, ?_⟩
            refine ⟨.ref cl, rfl, .int at_, rfl, cl, _, _, c.1, rfl, rfl, SqL.of P5.hc, ac, .ref d, rfl, .ref nl, rfl, .int at_, rfl, nl, _, _, .str z, rfl, rfl, SqL.of P5.hn, an, d, _, rfl, DPut.k (k := Sum.inr z) hd5.at_ ?_, ?_⟩
            · rw [show (fkv fds).length = fds.length from List.length_map ..]
              exact Nat.lt_of_le_of_lt (show fds.length ≤ 1000 by omega) (by decide)
            rw [show putK (fkv fds) (Sum.inr z) c.1 = fkv (putFl fds (z, c)) from putFl_kv fds (z, c)]
            have up : ∀ {v : V} {s : Shp}, ShAt H5 v s → ShAt (upd H5 d (.dK (fkv (putFl fds (z, c))))) v s := fun h => h.gr (xs := []) (.inr ⟨_, hd5.at_⟩) Gr.box
            have cz : Com nm cm (z, c) := ⟨at_, hni, hci⟩
            refine ⟨_, _, _, putFl fds (z, c), rfl, ⟨upd_same, fun x m => ?_⟩, putFl_nd hnd, fun x m => ?_, ?_, fun _ => List.length_pos_of_mem (putFl_has fds (z, c)), fun f m => ?_, ?_, P5.gl (Gl.upd hd5.at_) (B5.upd ndb ndr), (g4.trans g5).upd nd0⟩
            · rcases putFl_mem m with rfl | ⟨m, _⟩
              · exact up (P5.csh c (List.mem_of_getElem? hci)).1
              · exact up (hd5.sh x m)
            · rcases putFl_mem m with rfl | ⟨m, _⟩
              · exact cz
              · exact hcom x m
            · have := putFl_len (fs := fds) (f := (z, c))
              omega
            · exact ((hold f m).gr (Oth.lst ebx4) g5).put hd5.at_ (hat2 f m).2
            · rw [upd_ne ndf.symm]
              exact eF5
          · rintro σ H4 ⟨y12, y13, y14, fds, rfl, hd, hnd, hcom, hl1, hl2, hold, eF4, P4, g4⟩
            refine ⟨_, y12, y13, y14, frs ++ [⟨face, d, fds⟩], rfl, ?_, fun f m => ?_, ?_, P4, g4⟩
            · rw [List.map_append, hnm, List.take_add_one, er]
              rfl
            · rcases List.mem_append.mp m with m | m
              · exact ⟨hold f m, (hat f m).2⟩
              · obtain rfl := List.mem_singleton.mp m
                exact ⟨hd, ndf, nd0, hl2 (Nat.succ_pos _), by show fds.length ≤ 4; omega, hnd, hcom⟩
            · rw [eF4]
              unfold fkvs
              rw [List.map_append, List.map_append]
              rfl
      · rintro σ H1 ⟨y11, y12, y13, y14, frs, rfl, hnm, hat, eF, Pz, gz⟩
        rw [List.length_map, List.take_length] at hnm
        clear eft P12 gC nft
        refine fun kt nkt => ?_
        have nkb := Pz.B.neb nkt
        have nkr := Pz.B.ner nkt
        have nk0 : H kt = none := gz.free nkb nkt
        have nkf : kt ≠ ft := (ne_of_none eF nkt).symm
        have smk : Same H1 (upd H1 kt (.dK [])) := same_new nkt
        have hat1 : ∀ f ∈ frs, FldAt (upd H1 kt (.dK [])) f.da f.fds ∧ f.da ≠ kt := fun f m => ⟨(hat f m).1.same smk, ne_of_none (hat f m).1.at_ nkt⟩
        have hfp : ∀ f ∈ frs, f.da ≠ ft ∧ 1 ≤ f.fds.length ∧ f.fds.length ≤ 4 ∧ (f.fds.map (·.1)).Nodup ∧ ∀ x ∈ f.fds, Com nm cm x := fun f m => (hat f m).2.imp id fun h => h.2
        have P1' := Pz.gl (Gr.new (o := .dK []) nkt).gl (Pz.B.new nkt)
        have g1' := gz.trans (Gr.new (o := .dK []) nkt)
        have eF1 := smk _ _ eF
        have ek1 : (upd H1 kt (.dK [])) kt = some (.dK (kkv [])) := upd_same
        generalize upd H1 kt (.dK []) = H2 at hat1 P1' g1' eF1 ek1
        clear smk hat eF Pz gz nkt
        have fnm : ∀ z ∈ fcs, z ∈ frs.map (·.nm) := fun z m => by rw [hnm]; exact m
        have frnd : (frs.map (·.nm)).Nodup := by rw [hnm]; exact fnd
        refine ⟨.int many, rfl, many, rfl, by omega, by omega, for_range (lo := 0) (n := many) (fun i σ H' => ∃ (y11 y12 y13 y14 y16 y17 : Option V) (krs : List KRow), σ = [some (.ref b), some (.int most), some (.int kinds), some (.int many), some (.ref wl), some (.ref nl), some (.ref fl), some (.ref ul), some (.ref bs), some (.ref cl), some (.ref ft), y11, y12, y13, y14, some (.ref kt), y16, y17, none, none, none, none, none] ∧
          krs.map (·.nm) = ws.take i ∧ (∀ k ∈ krs, k.At H' ∧ k.da ≠ kt ∧ k.fcs.Nodup ∧ (∀ z ∈ k.fcs, z ∈ fcs) ∧ 1 ≤ k.fds.length ∧ k.fds.length ≤ 5 ∧ (k.fds.map (·.1)).Nodup ∧ (∀ f ∈ k.fds, f.1 ∈ nm ∧ okS l 4 false f.2.2) ∧ ∀ f ∈ frs, f.nm ∈ k.fcs → ∀ x ∈ f.fds, x ∈ k.fds) ∧
          (∀ (j : Nat) z, fcs[j]? = some z → j % many < i → ∃ k ∈ krs, z ∈ k.fcs) ∧ (∀ f ∈ frs, FldAt H' f.da f.fds) ∧ H' ft = some (.dK (fkvs frs)) ∧ H' kt = some (.dK (kkv krs)) ∧ Pre H' b r wl nl fl ul bs cl ws nm fcs uns l cm ∧ Gr b H H') ?_ ?_ ?_⟩
        · exact ⟨y11, y12, y13, y14, none, none, [], rfl, rfl, (fun k m => by cases m), (fun j z _ h => absurd h (Nat.not_lt_zero _)), fun f m => (hat1 f m).1, eF1, ek1, P1', g1'⟩
        · rintro i σ H3 hi ⟨y11, y12, y13, y14, y16, y17, krs, rfl, knm, hk, hcov, hfr, eF3, eK3, P3, g3⟩
          have hlen : krs.length = i := by
            have e := congrArg List.length knm
            rw [List.length_map, List.length_take] at e
            omega
          -- having
          refine ⟨.ref fl, rfl, fl, fcs.map V.str, rfl, SqL.of P3.hf, fun ha nha => ?_⟩
          have nhb := P3.B.neb nha
          have nhr := P3.B.ner nha
          refine lc_it (walk_enum (xs := fcs.map V.str)) (fun j H' => ∃ hv : List Str, hv.Nodup ∧ (∀ z ∈ hv, z ∈ fcs.take j) ∧ (∀ (j' : Nat) z, j' < j → fcs[j']? = some z → j' % many = i → z ∈ hv) ∧ Gr b H3 H' ∧ Box H' b r ∧ H' ha = some (.lst (hv.map V.str)))
            ⟨[], List.nodup_nil, (fun z m => by cases m), (fun j' z h => absurd h (Nat.not_lt_zero _)), Gr.new nha, P3.B.new nha, upd_same⟩ (fun j H' _ p => by
              obtain ⟨hv, _, _, _, g, _, _⟩ := p
              exact SqL.of (g _ _ n3b P3.hf)) ?_ ?_
          · rintro j x H4 H5 hj ⟨hv, hvn, hvs, hvc, g4, B4, e4⟩ ⟨tT, x1, x2, rfl, nT, rfl, f1, f2⟩
            cases f1
            have f2 : (fcs.map V.str)[j]? = some x2 := f2
            cases ej : fcs[j]? with
            | none => rw [List.getElem?_map, ej] at f2; cases f2
            | some face =>
              rw [List.getElem?_map, ej] at f2
              cases f2
              have g5 : Gr b H3 (upd H4 tT (.tup [.int (j : Nat), .str face])) := g4.trans (Gr.new nT)
              have B5 := B4.new (o := .tup [.int (j : Nat), .str face]) nT
              have e5 : (upd H4 tT (.tup [.int (j : Nat), .str face])) ha = some (.lst (hv.map V.str)) := by rw [upd_ne (ne_of_none e4 nT)]; exact e4
              refine ⟨tT, _, rfl, .inl (.inl upd_same), rfl, .int (j : Nat), [.str face], rfl, .str face, [], rfl, rfl, rfl, ?_⟩
              generalize upd H4 tT (.tup [.int (j : Nat), .str face]) = H5 at g5 B5 e5
              have fnew : face ∉ fcs.take j := by
                have := name_new (f := fun z : Str => z) (ks := fcs) (by rw [List.map_id']; exact fnd) ej
                rw [List.map_id'] at this
                exact this
              have tk : fcs.take (j + 1) = fcs.take j ++ [face] := by rw [List.take_add_one, ej]; rfl
              have hvl : hv.length ≤ 3 := by
                have := len_le_of_sub hvn fun z m => List.mem_of_mem_take (hvs z m)
                omega
              have yes : ∀ {H6 : Hp}, Gr b H3 H6 → Box H6 b r → H6 ha = some (.lst (hv.map V.str)) → ∃ acc, H6 ha = some (.lst acc) ∧ acc.length < sizeLine ∧ ∃ hv' : List Str, hv'.Nodup ∧ (∀ z ∈ hv', z ∈ fcs.take (j + 1)) ∧ (∀ (j' : Nat) z, j' < j + 1 → fcs[j']? = some z → j' % many = i → z ∈ hv') ∧ Gr b H3 (upd H6 ha (.lst (acc ++ [.str face]))) ∧ Box (upd H6 ha (.lst (acc ++ [.str face]))) b r ∧ (upd H6 ha (.lst (acc ++ [.str face]))) ha = some (.lst (hv'.map V.str)) := fun {H6} g6 B6 e6 => by
                refine ⟨_, e6, ?_, hv ++ [face], ?_, fun z m => ?_, fun j' z h1 h2 h3 => ?_, g6.upd nha, B6.upd nhb nhr, ?_⟩
                · rw [List.length_map]
                  exact Nat.lt_of_le_of_lt (show hv.length ≤ 1000 by omega) (by decide)
                · exact List.nodup_append.mpr ⟨hvn, by simp, fun a ha b hb e => fnew (by rw [show face = a from (e.trans (List.mem_singleton.mp hb)).symm]; exact hvs a ha)⟩
                · rw [tk]
                  rcases List.mem_append.mp m with m | m
                  · exact List.mem_append_left _ (hvs z m)
                  · exact List.mem_append_right _ m
                · by_cases e : j' = j
                  · subst e
                    rw [ej] at h2
                    cases h2
                    exact List.mem_append_right _ (List.mem_singleton.mpr rfl)
                  · exact List.mem_append_left _ (hvc j' z (by omega) h2 h3)
                · rw [upd_same, List.map_append]
                  rfl
              have hmod : ((j : Int)).fmod (many : Int) = ((j % many : Nat) : Int) := by
                rw [Int.fmod_eq_emod_of_nonneg _ (by omega)]
                omega
              refine ⟨.int (j : Nat), rfl, .inl ⟨_, rfl, .int many, rfl, _, _, rfl, rfl, (by show (many : Int) ≠ 0; omega), .int (0 + i), rfl, rfl, _, rfl, ite2 (fun e => ?_) (fun e => ?_)⟩⟩
              · exact iteT ⟨.str face, rfl, yes g5 B5 e5⟩
              · refine ⟨.ref b, rfl, b, r, 2, rfl, B5, by decide, by decide, fun dd H6 _ _ g6 B6 => ⟨rfl, _, rfl, ite2 (fun e2 => ?_) (fun e2 => ?_)⟩⟩
                · exact ⟨.str face, rfl, yes (g5.trans g6) B6 (g6 _ _ nhb e5)⟩
                · refine ⟨hv, hvn, fun z m => by rw [tk]; exact List.mem_append_left _ (hvs z m), fun j' z h1 h2 h3 => ?_, g5.trans g6, B6, g6 _ _ nhb e5⟩
                  by_cases ee : j' = j
                  · subst ee
                    refine absurd (decide_eq_true ?_) e
                    show V.int (((j' : Nat) : Int).fmod (many : Int)) = V.int (0 + (i : Int))
                    rw [hmod, h3, Int.zero_add]
                  · exact hvc j' z (by omega) h2 h3
          · rintro H4 ⟨hv, hvn, hvs, hvc, g4, B4, e4⟩
            rw [List.length_map, List.take_length] at hvs
            obtain ⟨rows, rnm, rsub⟩ := rows_of (frs := frs) (hv := hv) fun z m => fnm z (hvs z m)
            have hvl : hv.length ≤ 3 := by
              have := len_le_of_sub hvn hvs
              omega
            have rlen : rows.length = hv.length := by rw [← rnm, List.length_map]
            obtain ⟨bx3, ebx3⟩ := P3.B.lst
            have P4 := P3.gl g4.gl B4
            have eF4 := g4 _ _ nftb eF3
            -- given
            refine ⟨.ref ha, rfl, ha, rfl, ⟨_, SqL.of e4⟩, fun ga nga => ?_⟩
            have ngb := B4.neb nga
            have ngr := B4.ner nga
            refine lc_list (xs := hv.map V.str) (fun j H' => H' = upd H4 ga (.lst ((rows.take j).map fun k => V.ref k.da))) rfl (fun j H' _ e => by rw [e]; exact SqL.of (by rw [upd_ne (ne_of_none e4 nga)]; exact e4)) ?_ ?_
            · rintro j x H5 ex rfl
              cases ej : hv[j]? with
              | none => rw [List.getElem?_map, ej] at ex; cases ex
              | some z =>
                rw [List.getElem?_map, ej] at ex
                cases ex
                have hj := (List.getElem?_eq_some_iff.mp ej).1
                have ejr : rows[j]? = some (rows[j]'(by omega)) := List.getElem?_eq_getElem _
                generalize rows[j]'(by omega) = row at ejr
                have ezr : row.nm = z := by
                  have e1 : (rows.map (·.nm))[j]? = some row.nm := by rw [List.getElem?_map, ejr]; rfl
                  rw [rnm, ej] at e1
                  exact (Option.some.inj e1).symm
                have rm := rsub row (List.mem_of_getElem? ejr)
                refine ⟨rfl, lcT ⟨.ref ft, rfl, .str z, rfl, ft, .ref row.da, rfl, .inl ⟨fkvs frs, .inr z, .inl (by rw [upd_ne (ne_of_none eF4 nga)]; exact eF4), rfl, by rw [← ezr]; exact (fkvs_val frnd rm).symm⟩, _, upd_same, ?_, ?_⟩⟩
                · rw [List.length_map, List.length_take]
                  exact Nat.lt_of_le_of_lt (show min j rows.length ≤ 1000 by omega) (by decide)
                · rw [upd_upd, List.take_add_one, ejr, List.map_append]
                  rfl
            · rintro H5 rfl
              rw [List.length_map, ← rlen, List.take_length]
              have g5 : Gr b H3 (upd H4 ga (.lst (rows.map fun k => V.ref k.da))) := g4.trans (Gr.new nga)
              have P5 := P4.gl (Gr.new (o := .lst (rows.map fun k => V.ref k.da)) nga).gl (B4.new nga)
              have eg5 : (upd H4 ga (.lst (rows.map fun k => V.ref k.da))) ga = some (.lst (rows.map fun k => V.ref k.da)) := upd_same
              have eh5 : (upd H4 ga (.lst (rows.map fun k => V.ref k.da))) ha = some (.lst (hv.map V.str)) := by rw [upd_ne (ne_of_none e4 nga)]; exact e4
              generalize upd H4 ga (.lst (rows.map fun k => V.ref k.da)) = H5 at g5 P5 eg5 eh5
              -- tuple(having)
              refine ⟨.ref ha, rfl, ha, _, rfl, .inl ⟨SqL.of eh5, fun tp ntp => ?_⟩⟩
              have g6 : Gr b H3 (upd H5 tp (.tup (hv.map V.str))) := g5.trans (Gr.new ntp)
              have P6 := P5.gl (Gr.new (o := .tup (hv.map V.str)) ntp).gl (P5.B.new ntp)
              have eg6 : (upd H5 tp (.tup (hv.map V.str))) ga = some (.lst (rows.map fun k => V.ref k.da)) := by rw [upd_ne (ne_of_none eg5 ntp)]; exact eg5
              have et6 : (upd H5 tp (.tup (hv.map V.str))) tp = some (.tup (hv.map V.str)) := upd_same
              generalize upd H5 tp (.tup (hv.map V.str)) = H6 at g6 P6 eg6 et6
              refine ⟨.ref b, rfl, .ref ga, rfl, .ref nl, rfl, .ref cl, rfl, .ref bs, rfl, .int most, rfl, b, r, ga, nl, cl, bs, rows, nm, cm, l, most, rfl, ?_, hmost, fun t fds H7 nt ht t1 t5 tnd tok tall g7 B7 => ?_⟩
              · exact ⟨P6.B, eg6, P6.hn, P6.hc, P6.hb, ngb, nnb, n6b', n5b, fun k m => (hfr k (rsub k m)).gr (Oth.lst ebx3) g6, by omega, hnl, hnnd, hcl, P6.csh, fun k m f hf => (hfp k (rsub k m)).2.2.2.2 f hf, fun k m => (hfp k (rsub k m)).2.2.2.1, by omega, by omega⟩
              have ntb := P6.B.neb nt
              have ntpb : tp ≠ b := by
                obtain ⟨bx6, ebx6⟩ := P6.B.lst
                exact ne_of et6 ebx6 (by intro z; cases z)
              have g37 : Gr b H3 H7 := g6.trans g7
              have eK7 := g37 _ _ nkb eK3
              have et7 := g7 _ _ ntpb et6
              have ntk : t ≠ kt := (ne_of_none (g6 _ _ nkb eK3) nt).symm
              refine ⟨by show 2 ≤ sizeLine; decide, fun q1 nq => ?_⟩
              have g8 : Gr b H3 (upd H7 q1 (.tup [.ref tp, .ref t])) := g37.trans (Gr.new nq)
              have B8 := B7.new (o := .tup [.ref tp, .ref t]) nq
              have sm8 : Same H7 (upd H7 q1 (.tup [.ref tp, .ref t])) := same_new nq
              have eq8 : (upd H7 q1 (.tup [.ref tp, .ref t])) q1 = some (.tup [.ref tp, .ref t]) := upd_same
              generalize upd H7 q1 (.tup [.ref tp, .ref t]) = H8 at g8 B8 sm8 eq8
              have P8 := P3.gl g8.gl B8
              have eK8 := g8 _ _ nkb eK3
              have hwi : ws[i]? = some (ws[i]'(by omega)) := List.getElem?_eq_getElem _
              generalize ws[i]'(by omega) = wd at hwi
              have aw : atI (ws.map V.str) (0 + (i : Int)) = some (.str wd) := at_of (j := i) (by omega) (by rw [List.getElem?_map, hwi]; rfl)
              refine ⟨.ref kt, rfl, .ref wl, rfl, _, rfl, wl, _, _, .str wd, rfl, rfl, SqL.of P8.hw, aw, kt, _, rfl, DPut.k (k := Sum.inr wd) eK8 ?_, ?_⟩
              · rw [show (kkv krs).length = krs.length from List.length_map ..]
                exact Nat.lt_of_le_of_lt (show krs.length ≤ 1000 by omega) (by decide)
              have wnew : wd ∉ krs.map (·.nm) := by
                rw [knm]
                have := name_new (f := fun z : Str => z) (ks := ws) (by rw [List.map_id']; exact hwnd) hwi
                rw [List.map_id'] at this
                exact this
              rw [show putK (kkv krs) (Sum.inr wd) (.ref q1) = kkv (krs ++ [⟨wd, q1, tp, t, hv, fds⟩]) from put_snoc (f := fun k : KRow => k.nm) (g := fun k => V.ref k.t) (r := ⟨wd, q1, tp, t, hv, fds⟩) wnew]
              have row8 : (KRow.mk wd q1 tp t hv fds).At H8 := ⟨eq8, sm8 _ _ et7, ht.same sm8⟩
              refine ⟨y11, _, y13, y14, some (.ref ha), some (.ref ga), krs ++ [⟨wd, q1, tp, t, hv, fds⟩], rfl, ?_, fun k m => ?_, fun j z hz hj => ?_, fun f m => ?_, ?_, upd_same, P8.gl (Gl.upd eK8) (B8.upd nkb nkr), (g3.trans g8).upd nk0⟩
              · rw [List.map_append, knm, List.take_add_one, hwi]
                rfl
              · rcases List.mem_append.mp m with m | m
                · obtain ⟨h1, h2, h3⟩ := hk k m
                  exact ⟨(h1.gr (Oth.lst ebx3) g8).put eK8 h2, h2, h3⟩
                · obtain rfl := List.mem_singleton.mp m
                  refine ⟨row8.put eK8 ntk, ntk, hvn, hvs, t1, t5, tnd, tok, fun f hf hin x hx => ?_⟩
                  obtain ⟨row, rm, rn⟩ := List.mem_map.mp (show f.nm ∈ rows.map (·.nm) by rw [rnm]; exact hin)
                  have : row = f := by
                    have h1 := fkvs_val frnd (rsub row rm)
                    obtain ⟨i1, hi1, e1⟩ := List.getElem_of_mem (rsub row rm)
                    obtain ⟨i2, hi2, e2⟩ := List.getElem_of_mem hf
                    have hh : (frs.map (·.nm))[i1]'(by rw [List.length_map]; exact hi1) = (frs.map (·.nm))[i2]'(by rw [List.length_map]; exact hi2) := by
                      rw [List.getElem_map, List.getElem_map, e1, e2, rn]
                    have := (List.getElem_inj frnd).mp hh
                    subst this
                    rw [← e1, ← e2]
                  exact tall f (this ▸ rm) x hx
              · by_cases e : j % many = i
                · exact ⟨_, List.mem_append_right _ (List.mem_singleton.mpr rfl), hvc j z (by have := (List.getElem?_eq_some_iff.mp hz).1; rw [List.length_map]; exact this) hz e⟩
                · obtain ⟨k, hk1, hk2⟩ := hcov j z hz (by omega)
                  exact ⟨k, List.mem_append_left _ hk1, hk2⟩
              · exact ((hfr f m).gr (Oth.lst ebx3) g8).put eK8 (hat1 f m).2
              · rw [upd_ne nkf.symm]
                exact g8 _ _ nftb eF3
        · rintro σ H3 ⟨y11, y12, y13, y14, y16, y17, krs, rfl, knm, hk, hcov, hfr, eF3, eK3, P3, g3⟩
          clear ek1 P1' g1' eF1
          refine fun ut nut => ?_
          have nub := P3.B.neb nut
          have nur := P3.B.ner nut
          have nu0 : H ut = none := g3.free nub nut
          have nuk : ut ≠ kt := (ne_of_none eK3 nut).symm
          have nuf : ut ≠ ft := (ne_of_none eF3 nut).symm
          have smu : Same H3 (upd H3 ut (.dK [])) := same_new nut
          have kat : ∀ k ∈ krs, k.At (upd H3 ut (.dK [])) ∧ k.da ≠ ut := fun k m => ⟨(hk k m).1.same smu, ne_of_none (hk k m).1.d.at_ nut⟩
          have fat : ∀ f ∈ frs, FldAt (upd H3 ut (.dK [])) f.da f.fds ∧ f.da ≠ ut := fun f m => ⟨(hfr f m).same smu, ne_of_none (hfr f m).at_ nut⟩
          have kpr : ∀ k ∈ krs, k.fcs.Nodup ∧ (∀ z ∈ k.fcs, z ∈ fcs) ∧ 1 ≤ k.fds.length ∧ k.fds.length ≤ 5 ∧ (k.fds.map (·.1)).Nodup ∧ (∀ f ∈ k.fds, f.1 ∈ nm ∧ okS l 4 false f.2.2) ∧ ∀ f ∈ frs, f.nm ∈ k.fcs → ∀ x ∈ f.fds, x ∈ k.fds := fun k m => (hk k m).2.2
          have P4 := P3.gl (Gr.new (o := .dK []) nut).gl (P3.B.new nut)
          have g4' := g3.trans (Gr.new (o := .dK []) nut)
          have eF4 := smu _ _ eF3
          have eK4 := smu _ _ eK3
          have eU4 : (upd H3 ut (.dK [])) ut = some (.dK (ukv [])) := upd_same
          generalize upd H3 ut (.dK []) = H4 at kat fat P4 g4' eF4 eK4 eU4
          clear smu hk hfr P3 g3 eF3 eK3 nut hat1
          refine ⟨.ref ul, rfl, ul, rfl, ⟨_, SqL.of P4.hu⟩, ?_⟩
          refine for_list (xs := uns.map V.str) (fun i σ H' => ∃ (y19 y20 : Option V) (urs : List URow), σ = [some (.ref b), some (.int most), some (.int kinds), some (.int many), some (.ref wl), some (.ref nl), some (.ref fl), some (.ref ul), some (.ref bs), some (.ref cl), some (.ref ft), y11, y12, y13, y14, some (.ref kt), y16, y17, some (.ref ut), y19, y20, none, none] ∧
            urs.map (·.nm) = uns.take i ∧ (∀ u ∈ urs, H' u.t = some (.tup (u.ms.map V.str)) ∧ u.ms.Nodup ∧ 1 ≤ u.ms.length ∧ u.ms.length ≤ 4 ∧ ∀ z ∈ u.ms, z ∈ ws.take many) ∧ (∀ k ∈ krs, k.At H') ∧ (∀ f ∈ frs, FldAt H' f.da f.fds) ∧ H' ft = some (.dK (fkvs frs)) ∧ H' kt = some (.dK (kkv krs)) ∧ H' ut = some (.dK (ukv urs)) ∧ Pre H' b r wl nl fl ul bs cl ws nm fcs uns l cm ∧ Gr b H H')
            ⟨none, none, [], rfl, rfl, (fun u m => by cases m), fun k m => (kat k m).1, fun f m => (fat f m).1, eF4, eK4, eU4, P4, g4'⟩ ?_ ?_ ?_
          · rintro i σ H' _ ⟨_, _, urs, _, _, _, _, _, _, _, _, Pz, _⟩
            exact SqL.of Pz.hu
          · rintro i x σ H5 ex ⟨y19, y20, urs, rfl, unm, hu5, hk5, hf5, eF5, eK5, eU5, P5, g5⟩
            rw [List.getElem?_map] at ex
            cases er : uns[i]? with
            | none => rw [er] at ex; cases ex
            | some un =>
              rw [er] at ex
              cases ex
              have hi := (List.getElem?_eq_some_iff.mp er).1
              have hlen : urs.length = i := by
                have e := congrArg List.length unm
                rw [List.length_map, List.length_take] at e
                omega
              -- own
              refine ⟨.ref wl, rfl, .int many, rfl, many, rfl, wl, ws.map V.str, rfl, SqL.of P5.hw, fun sl nsl => ⟨sl, rfl, ⟨_, SqL.of upd_same⟩, fun ow now => ?_⟩⟩
              rw [cut_to (by omega), ← List.map_take] at now ⊢
              have B6 := P5.B.new (o := .lst ((ws.take many).map V.str)) nsl
              have g6 : Gr b H5 (upd H5 sl (.lst ((ws.take many).map V.str))) := Gr.new nsl
              have es6 : (upd H5 sl (.lst ((ws.take many).map V.str))) sl = some (.lst ((ws.take many).map V.str)) := upd_same
              have nslb := P5.B.neb nsl
              generalize upd H5 sl (.lst ((ws.take many).map V.str)) = H6 at B6 g6 es6 now
              have nob := B6.neb now
              have nor := B6.ner now
              refine lc_list (xs := (ws.take many).map V.str) (fun j H' => ∃ os : List Str, os.Nodup ∧ (∀ z ∈ os, z ∈ (ws.take many).take j) ∧ Gr b H6 H' ∧ Box H' b r ∧ H' ow = some (.lst (os.map V.str))) ⟨[], List.nodup_nil, (fun z m => by cases m), Gr.new now, B6.new now, upd_same⟩
                (fun j H' _ p => by
                  obtain ⟨os, _, _, g, _, _⟩ := p
                  exact SqL.of (g _ _ nslb es6)) ?_ ?_
              · rintro j x H7 ex ⟨os, osn, oss, g7, B7, e7⟩
                cases ej : (ws.take many)[j]? with
                | none => rw [List.getElem?_map, ej] at ex; cases ex
                | some wd =>
                  rw [List.getElem?_map, ej] at ex
                  cases ex
                  have tk : (ws.take many).take (j + 1) = (ws.take many).take j ++ [wd] := by rw [List.take_add_one, ej]; rfl
                  have tnd : (ws.take many).Nodup := hwnd.sublist (List.take_sublist _ _)
                  have wnew : wd ∉ (ws.take many).take j := by
                    have := name_new (f := fun z : Str => z) (ks := ws.take many) (by rw [List.map_id']; exact tnd) ej
                    rw [List.map_id'] at this
                    exact this
                  have osl : os.length ≤ many := by
                    have := len_le_of_sub osn fun z m => List.mem_of_mem_take (oss z m)
                    omega
                  refine ⟨rfl, .ref b, rfl, b, r, 2, rfl, B7, by decide, by decide, fun dd H8 _ _ g8 B8 => ⟨rfl, _, rfl, ite2 (fun e => ?_) (fun e => ?_)⟩⟩
                  · refine ⟨.str wd, rfl, _, g8 _ _ nob e7, ?_, os ++ [wd], ?_, fun z m => ?_, (g7.trans g8).upd now, B8.upd nob nor, ?_⟩
                    · rw [List.length_map]
                      exact Nat.lt_of_le_of_lt (show os.length ≤ 1000 by omega) (by decide)
                    · exact List.nodup_append.mpr ⟨osn, by simp, fun a ha b hb e => wnew (by rw [show wd = a from (e.trans (List.mem_singleton.mp hb)).symm]; exact oss a ha)⟩
                    · rw [tk]
                      rcases List.mem_append.mp m with m | m
                      · exact List.mem_append_left _ (oss z m)
                      · exact List.mem_append_right _ m
                    · rw [upd_same, List.map_append]
                      rfl
                  · exact ⟨os, osn, fun z m => by rw [tk]; exact List.mem_append_left _ (oss z m), g7.trans g8, B8, g8 _ _ nob e7⟩
              · rintro H7 ⟨os, osn, oss, g7, B7, e7⟩
                rw [List.length_map, List.take_length] at oss
                have osl : os.length ≤ many := by
                  have := len_le_of_sub osn oss
                  omega
                have osN : ∀ z ∈ os, IsName z := fun z m => (hwok z (List.mem_of_mem_take (oss z m))).1
                -- own[:4]
                refine ⟨.ref ow, rfl, 4, rfl, ow, _, rfl, SqL.of e7, fun o4 no4 => ?_⟩
                rw [show (4 : Int) = ((4 : Nat) : Int) from rfl, cut_to', ← List.map_take]
                have s8 : Same H7 (upd H7 o4 (.lst ((os.take 4).map V.str))) := same_new no4
                have e84 : (upd H7 o4 (.lst ((os.take 4).map V.str))) o4 = some (.lst ((os.take 4).map V.str)) := upd_same
                have B8 := B7.new (o := .lst ((os.take 4).map V.str)) no4
                have no4b := B7.neb no4
                generalize upd H7 o4 (.lst ((os.take 4).map V.str)) = H8 at s8 e84 B8
                -- own == []
                refine ⟨.ref ow, rfl, Nat.zero_le _, fun e0 ne0 => ?_⟩
                have s9 : Same H8 (upd H8 e0 (.lst [])) := same_new ne0
                have e90 : (upd H8 e0 (.lst [])) e0 = some (.lst []) := upd_same
                have B9 := B8.new (o := .lst []) ne0
                generalize upd H8 e0 (.lst []) = H9 at s9 e90 B9
                have e97 := s9 _ _ (s8 _ _ e7)
                have e94 := s9 _ _ e84
                refine ⟨.list (os.map PyData.str), .list [], .lst (SqL.of e97) (dp_strs os), .lst (SqL.of e90) .nil, shaped_strs osN, shaped_strs (l := []) (fun z m => by cases m), .inr ⟨_, rfl, ?_⟩⟩
                rw [eqv_nil]
                have g69 : Gr b H6 H9 := g7.trans ((gr_x s8).trans (gr_x s9))
                have P9 := P5.gl (g6.trans g69).gl B9
                -- what is taken in the end
                have fin : ∀ (H12 : Hp) (p2 : Addr) (ms : List Str) (y20' : Option V), Gr b H5 H12 → Box H12 b r → H12 p2 = some (.lst (ms.map V.str)) → ms.Nodup → 1 ≤ ms.length → ms.length ≤ 4 → (∀ z ∈ ms, z ∈ ws.take many) → p2 ≠ b → ∀ (Z : L2.St → Hp → Prop), True := fun _ _ _ _ _ _ _ _ _ _ _ _ _ => trivial
                have hd4 : (os.take 4).Nodup := osn.sublist (List.take_sublist _ _)
                have hs4 : ∀ z ∈ os.take 4, z ∈ ws.take many := fun z m => oss z (List.mem_of_mem_take m)
                have hl4 : (os.take 4).length ≤ 4 := List.length_take_le _ _
                -- the items that are added: none, or one if there are none
                refine ⟨_, rfl, (by split <;> decide), (by split <;> decide), fun ad nad => ?_⟩
                have nadb := B9.neb nad
                have nadr := B9.ner nad
                refine lc_range (lo := 0) (n := (if (os.length == 0) = true then (1 : Int) else 0).toNat) (fun j H' => ∃ ax : List Str, ax.length = j ∧ (∀ z ∈ ax, z ∈ ws.take many) ∧ Gr b H9 H' ∧ Box H' b r ∧ H' ad = some (.lst (ax.map V.str))) ⟨[], rfl, (fun z m => by cases m), Gr.new nad, B9.new nad, upd_same⟩ ?_ ?_
                · rintro j H10 hj ⟨ax, axl, axs, g10, B10, e10⟩
                  have hj1 : j < 1 := by
                    have : (if (os.length == 0) = true then (1 : Int) else 0).toNat ≤ 1 := by split <;> decide
                    omega
                  refine ⟨rfl, lcT ⟨.ref wl, rfl, .ref b, rfl, .int many, rfl, b, r, many, rfl, B10, by omega, by omega, fun dd H11 dd0 dd1 g11 B11 => ?_⟩⟩
                  obtain ⟨dd, rfl⟩ := Int.eq_ofNat_of_zero_le dd0
                  have hdd : dd < many := by omega
                  have hwd : ws[dd]? = some (ws[dd]'(by omega)) := List.getElem?_eq_getElem _
                  generalize ws[dd]'(by omega) = wd at hwd
                  have wm : wd ∈ ws.take many := List.mem_of_getElem? (i := dd) (by rw [List.getElem?_take_of_lt hdd]; exact hwd)
                  have P11 := P9.gl (g10.trans g11).gl B11
                  refine ⟨wl, _, dd, .str wd, rfl, rfl, SqL.of P11.hw, atI_nat (by rw [List.getElem?_map, hwd]; rfl), _, g11 _ _ nadb e10, ?_, ax ++ [wd], ?_, fun z m => ?_, (g10.trans g11).upd nad, B11.upd nadb nadr, ?_⟩
                  · rw [List.length_map]
                    exact Nat.lt_of_le_of_lt (show ax.length ≤ 1000 by omega) (by decide)
                  · rw [List.length_append, axl]; rfl
                  · rcases List.mem_append.mp m with m | m
                    · exact axs z m
                    · rw [List.mem_singleton.mp m]; exact wm
                  · rw [upd_same, List.map_append]
                    rfl
                · rintro H10 ⟨ax, axl, axs, g10, B10, e10⟩
                  have e104 := g10 _ _ no4b e94
                  have al : ax.length ≤ 1 := by
                    rw [axl]
                    split <;> decide
                  refine ⟨o4, ad, _, _, rfl, rfl, e104, e10, hS _ (by rw [List.length_map, List.length_map]; omega), fun p2 np2 => ?_⟩
                  have e11 : (upd H10 p2 (.lst ((os.take 4).map V.str ++ ax.map V.str))) p2 = some (.lst ((os.take 4 ++ ax).map V.str)) := by rw [upd_same, List.map_append]
                  have g59 : Gr b H5 H10 := (g6.trans g69).trans g10
                  have g511 : Gr b H5 (upd H10 p2 (.lst ((os.take 4).map V.str ++ ax.map V.str))) := g59.trans (Gr.new np2)
                  have B11 := B10.new (o := .lst ((os.take 4).map V.str ++ ax.map V.str)) np2
                  generalize upd H10 p2 (.lst ((os.take 4).map V.str ++ ax.map V.str)) = H11 at e11 g511 B11
                  have mprop : (os.take 4 ++ ax).Nodup ∧ 1 ≤ (os.take 4 ++ ax).length ∧ (os.take 4 ++ ax).length ≤ 4 ∧ ∀ z ∈ os.take 4 ++ ax, z ∈ ws.take many := by
                    cases os with
                    | nil =>
                      have a1 : ax.length = 1 := axl
                      obtain ⟨x, rfl⟩ := List.length_eq_one_iff.mp a1
                      exact ⟨by simp, by simp, by simp, fun z m => axs z (by simpa using m)⟩
                    | cons o os' =>
                      have a0 : ax.length = 0 := axl
                      obtain rfl := List.length_eq_zero_iff.mp a0
                      rw [List.append_nil]
                      exact ⟨hd4, by rw [List.length_take, List.length_cons]; omega, hl4, hs4⟩
                  generalize os.take 4 ++ ax = ms at e11 mprop
                  obtain ⟨m1, m2, m3, m4⟩ := mprop
                  -- union_table[union] = tuple(own[::-1])
                  refine ⟨.ref p2, rfl, p2, _, rfl, SqL.of e11, fun p3 np3 => ⟨p3, _, rfl, .inl ⟨SqL.of upd_same, fun p4 np4 => ?_⟩⟩⟩
                  rw [← List.map_reverse] at np4 ⊢
                  have g512 : Gr b H5 (upd (upd H11 p3 (.lst (ms.reverse.map V.str))) p4 (.tup (ms.reverse.map V.str))) := g511.trans ((Gr.new np3).trans (Gr.new np4))
                  have B12 := (B11.new (o := .lst (ms.reverse.map V.str)) np3).new (o := .tup (ms.reverse.map V.str)) np4
                  have e12 : (upd (upd H11 p3 (.lst (ms.reverse.map V.str))) p4 (.tup (ms.reverse.map V.str))) p4 = some (.tup (ms.reverse.map V.str)) := upd_same
                  generalize upd (upd H11 p3 (.lst (ms.reverse.map V.str))) p4 (.tup (ms.reverse.map V.str)) = H12 at g512 B12 e12
                  have eU12 := g512 _ _ nub eU5
                  obtain ⟨bx5, ebx5⟩ := P5.B.lst
                  refine ⟨.ref ut, rfl, .str un, rfl, ut, _, rfl, DPut.k (k := Sum.inr un) eU12 ?_, ?_⟩
                  · rw [show (ukv urs).length = urs.length from List.length_map ..]
                    exact Nat.lt_of_le_of_lt (show urs.length ≤ 1000 by omega) (by decide)
                  have unew : un ∉ urs.map (·.nm) := by
                    rw [unm]
                    have := name_new (f := fun z : Str => z) (ks := uns) (by rw [List.map_id']; exact und) er
                    rw [List.map_id'] at this
                    exact this
                  rw [show putK (ukv urs) (Sum.inr un) (.ref p4) = ukv (urs ++ [⟨un, p4, ms.reverse⟩]) from put_snoc (f := fun k : URow => k.nm) (g := fun k => V.ref k.t) (r := ⟨un, p4, ms.reverse⟩) unew]
                  have P12 := P5.gl g512.gl B12
                  have tup12 : ∀ {a : Addr} {xs : List V}, H12 a = some (.tup xs) → (upd H12 ut (.dK (ukv (urs ++ [⟨un, p4, ms.reverse⟩])))) a = some (.tup xs) := fun e => by
                    rw [upd_ne (ne_of e eU12 (by intro z; cases z))]
                    exact e
                  refine ⟨_, _, urs ++ [⟨un, p4, ms.reverse⟩], rfl, ?_, fun u m => ?_, fun k m => ((hk5 k m).gr (Oth.lst ebx5) g512).put eU12 (kat k m).2, fun f m => ((hf5 f m).gr (Oth.lst ebx5) g512).put eU12 (fat f m).2, ?_, ?_, upd_same, P12.gl (Gl.upd eU12) (B12.upd nub nur), (g5.trans g512).upd nu0⟩
                  · rw [List.map_append, unm, List.take_add_one, er]
                    rfl
                  · rcases List.mem_append.mp m with m | m
                    · exact ⟨tup12 (g512 _ _ ((Oth.lst ebx5).net (hu5 u m).1) (hu5 u m).1), (hu5 u m).2⟩
                    · obtain rfl := List.mem_singleton.mp m
                      exact ⟨tup12 e12, (List.reverse_perm ms).nodup_iff.mpr m1, by show 1 ≤ ms.reverse.length; rw [List.length_reverse]; exact m2, by show ms.reverse.length ≤ 4; rw [List.length_reverse]; exact m3, fun z mz => m4 z (List.mem_reverse.mp mz)⟩
                  · rw [upd_ne nuf.symm]
                    exact g512 _ _ nftb eF5
                  · rw [upd_ne nuk.symm]
                    exact g512 _ _ nkb eK5
          · rintro σ H5 ⟨y19, y20, urs, rfl, unm, hu5, hk5, hf5, eF5, eK5, eU5, P5, g5⟩
            rw [List.length_map, List.take_length] at unm
            -- return
            refine ⟨.ref kt, rfl, .ref ft, rfl, .ref ut, rfl, .ref wl, rfl, .ref b, rfl, .int many, rfl, b, r, many, rfl, P5.B, by omega, by omega, fun dd H6 dd0 dd1 g6 B6 => ?_⟩
            obtain ⟨dd, rfl⟩ := Int.eq_ofNat_of_zero_le dd0
            have hdd : dd < many := by omega
            have hwd : ws[dd]? = some (ws[dd]'(by omega)) := List.getElem?_eq_getElem _
            generalize ws[dd]'(by omega) = root at hwd
            have wm : root ∈ ws.take many := List.mem_of_getElem? (i := dd) (by rw [List.getElem?_take_of_lt hdd]; exact hwd)
            have P6 := P5.gl g6.gl B6
            obtain ⟨bx5, ebx5⟩ := P5.B.lst
            refine ⟨wl, _, dd, .str root, rfl, rfl, SqL.of P6.hw, atI_nat (by rw [List.getElem?_map, hwd]; rfl), by show 4 ≤ sizeLine; decide, fun q1 nq1 => ?_⟩
            have sm : Same H6 (upd H6 q1 (.tup [.ref kt, .ref ft, .ref ut, .str root])) := same_new nq1
            have S6 : SchAt H6 kt ft ut krs frs urs := ⟨g6 _ _ nkb eK5, g6 _ _ nftb eF5, g6 _ _ nub eU5, fun k m => (hk5 k m).gr (Oth.lst ebx5) g6, fun f m => (hf5 f m).gr (Oth.lst ebx5) g6, fun u m => g6 _ _ ((Oth.lst ebx5).net (hu5 u m).1) (hu5 u m).1⟩
            have ebs : bsOf krs frs urs = l := by
              unfold bsOf
              rw [knm, hnm, unm, ← hl]
            have tx : ∀ z ∈ l, PyData.strOk z = true := fun z m => by
              rw [← hl] at m
              rcases List.mem_append.mp m with m | m
              · rcases List.mem_cons.mp m with rfl | m
                · decide +kernel
                · rw [List.mem_singleton.mp m]
                  decide +kernel
              · rcases List.mem_append.mp m with m | m
                · exact (hwok z (List.mem_of_mem_take m)).1.tx
                · rcases List.mem_append.mp m with m | m
                  · exact (hwok z (fsub z m)).1.tx
                  · exact (hwok z (usub z m)).1.tx
            refine q q1 kt ft ut krs frs urs root _ upd_same (S6.same sm) ⟨?_, ?_, ?_, ?_, ?_, ?_, ?_, ?_, ?_, ?_, ?_, ?_, ?_, ?_, ?_⟩ ((g5.trans g6).trans (Gr.new nq1)) (B6.new nq1)
            · have e := congrArg List.length knm
              rw [List.length_map, lt] at e
              omega
            · have e := congrArg List.length knm
              rw [List.length_map, lt] at e
              omega
            · have e := congrArg List.length hnm
              rw [List.length_map, lf] at e
              omega
            · have e := congrArg List.length unm
              rw [List.length_map, lu] at e
              omega
            · rw [ebs, ← hl]
              refine List.nodup_append.mpr ⟨by decide +kernel, ?_, fun a ha c hc e => ?_⟩
              · rw [← hfcs, ← huns]
                exact hwnd.sublist (parts_sub ws many nf nu hnf)
              · subst e
                have am : a ∈ ws := by
                  rcases List.mem_append.mp hc with m | m
                  · exact List.mem_of_mem_take m
                  · rcases List.mem_append.mp m with m | m
                    · exact fsub a m
                    · exact usub a m
                rcases List.mem_cons.mp ha with rfl | ha
                · exact (hwok _ am).2.2 rfl
                · rw [List.mem_singleton.mp ha] at am
                  exact (hwok _ am).2.1 rfl
            · intro k m
              have : k.nm ∈ ws.take many := by rw [← knm]; exact List.mem_map.mpr ⟨k, m, rfl⟩
              exact (hwok _ (List.mem_of_mem_take this)).1
            · intro k m
              exact (hwok _ (fsub _ (by rw [← hnm]; exact List.mem_map.mpr ⟨k, m, rfl⟩))).1
            · intro k m
              exact (hwok _ (usub _ (by rw [← unm]; exact List.mem_map.mpr ⟨k, m, rfl⟩))).1
            · intro k m
              obtain ⟨h1, h2, _⟩ := kpr k m
              refine ⟨h1, fun z mz => fnm z (h2 z mz), ?_⟩
              have := len_le_of_sub h1 h2
              omega
            · intro k m
              obtain ⟨_, _, h1, h2, h3, h4, _⟩ := kpr k m
              rw [ebs]
              exact ⟨h1, h2, h3, fun f mf => hnok f.1 (h4 f mf).1 |>.1, fun f mf => (h4 f mf).2, tx⟩
            · intro f m
              obtain ⟨_, h1, h2, h3, h4⟩ := hfp f m
              rw [ebs]
              refine ⟨h1, h2, h3, fun x mx => ?_, fun x mx => ?_, tx⟩
              · obtain ⟨j, hj, _⟩ := h4 x mx
                exact (hnok _ (List.mem_of_getElem? hj)).1
              · obtain ⟨j, _, hj⟩ := h4 x mx
                exact (P5.csh _ (List.mem_of_getElem? hj)).2
            · intro f m
              obtain ⟨j, hj, ej⟩ := List.getElem_of_mem (show f.nm ∈ fcs by rw [← hnm]; exact List.mem_map.mpr ⟨f, m, rfl⟩)
              exact hcov j f.nm (by rw [← ej]; exact List.getElem?_eq_getElem hj) (Nat.mod_lt _ (by omega))
            · intro f mf k mk hin x mx
              obtain ⟨_, _, _, _, _, _, h7⟩ := kpr k mk
              exact ⟨x, h7 f mf hin x mx, rfl, rfl⟩
            · intro u m
              obtain ⟨_, h1, h2, h3, h4⟩ := hu5 u m
              exact ⟨h1, h2, h3, fun z mz => by rw [knm]; exact h4 z mz⟩
            · rw [knm]
              exact wm
end
end NW
namespace NW
open PySem PySem.Spec PyProof.Rows L2
open TL (tl)
open StX (pa_star)
abbrev s_Schema_bases : Stmt := inClass (topS 35) 3
abbrev N_Schema_bases : List Str := ["self"]
theorem sc_Schema_bases : FnScope N_Schema_bases ["self"] (defScope s_Schema_bases) := ⟨rfl, rfl, rfl, by decide +kernel, rfl, by decide +kernel, by decide +kernel⟩
abbrev s_Schema_contains : Stmt := inClass (topS 35) 2
abbrev N_Schema_contains : List Str := ["self", "base"]
theorem sc_Schema_contains : FnScope N_Schema_contains ["self", "base"] (defScope s_Schema_contains) := ⟨rfl, rfl, rfl, by decide +kernel, rfl, by decide +kernel, by decide +kernel⟩
abbrev s_Schema_kinds : Stmt := inClass (topS 35) 4
abbrev N_Schema_kinds : List Str := ["self"]
theorem sc_Schema_kinds : FnScope N_Schema_kinds ["self"] (defScope s_Schema_kinds) := ⟨rfl, rfl, rfl, by decide +kernel, rfl, by decide +kernel, by decide +kernel⟩
abbrev s_Schema_faces : Stmt := inClass (topS 35) 5
abbrev N_Schema_faces : List Str := ["self"]
theorem sc_Schema_faces : FnScope N_Schema_faces ["self"] (defScope s_Schema_faces) := ⟨rfl, rfl, rfl, by decide +kernel, rfl, by decide +kernel, by decide +kernel⟩
abbrev s_Schema_unions : Stmt := inClass (topS 35) 6
abbrev N_Schema_unions : List Str := ["self"]
theorem sc_Schema_unions : FnScope N_Schema_unions ["self"] (defScope s_Schema_unions) := ⟨rfl, rfl, rfl, by decide +kernel, rfl, by decide +kernel, by decide +kernel⟩
theorem map_eq_of_rel {α : Type} {f : α → Str} {ks rs : List α} (hl : rs.length = ks.length) (h : ∀ (j : Nat) (a b : α), ks[j]? = some a → rs[j]? = some b → f b = f a) : rs.map f = ks.map f := by
  have := rel_names (i := ks.length) hl (Nat.le_refl _) h
  rw [List.take_length] at this
  exact this
theorem BuiltAt.names {C : Addr} {H : Hp} {x : Addr} {ks : List KRow} {fs : List FRow} {us : List URow} {root : Str} (_ : BuiltAt C H x ks fs us root) : ∀ ks' fs' us', RelK ks ks' → RelF fs fs' → RelU us us' →
    (ks'.map (·.nm) = ks.map (·.nm) ∧ fs'.map (·.nm) = fs.map (·.nm) ∧ us'.map (·.nm) = us.map (·.nm)) := fun ks' fs' us' rk rf ru =>
  ⟨map_eq_of_rel (f := fun k : KRow => k.nm) rk.1 fun j a b ea eb => (rk.2 j a b ea eb).1, map_eq_of_rel (f := fun k : FRow => k.nm) rf.1 fun j a b ea eb => (rf.2 j a b ea eb).1, map_eq_of_rel (f := fun k : URow => k.nm) ru.1 fun j a b ea eb => (ru.2 j a b ea eb).1⟩
theorem BuiltAt.gr {C b : Addr} {H H' : Hp} {x : Addr} {ks : List KRow} {fs : List FRow} {us : List URow} {root : Str} (hb : Oth H b) (g : Gr b H H') (n : x ≠ b) (h : BuiltAt C H x ks fs us root) : BuiltAt C H' x ks fs us root := by
  obtain ⟨dx, kt, ft, ut, ks', fs', us', hx, S, rk, rf, ru⟩ := h
  exact ⟨dx, kt, ft, ut, ks', fs', us', g _ _ n hx, S.gr hb g, rk, rf, ru⟩
theorem BuiltAt.same {C : Addr} {H H' : Hp} {x : Addr} {ks : List KRow} {fs : List FRow} {us : List URow} {root : Str} (g : Same H H') (h : BuiltAt C H x ks fs us root) : BuiltAt C H' x ks fs us root := by
  obtain ⟨dx, kt, ft, ut, ks', fs', us', hx, S, rk, rf, ru⟩ := h
  exact ⟨dx, kt, ft, ut, ks', fs', us', g _ _ hx, S.same g, rk, rf, ru⟩
section
variable {P : Program} {w : World} {K : PySem.W.Frag} {mg : Str → Option Value} {base : Heap}

/-- a method of the class at C -/
structure Mt (K : PySem.W.Frag) (C : Addr) (x q : Str) (st : Stmt) (f : Addr) (fd : FuncData) (ps : List Str) : Prop where
  F : Fun K x q st f fd
  b : Binds K fd ps []
  m : Meth K C x f
theorem TyX.same {H H' : Hp} {x : V} {t : Value} (s : Same H H') (h : TyX K H x t) : TyX K H' x t := by
  cases h with
  | base h =>
    cases h with
    | non => exact .base .non
    | bl b => exact .base (.bl b)
    | int i => exact .base (.int i)
    | str z => exact .base (.str z)
    | flt z => exact .base (.flt z)
    | lst e => exact .base (.lst (s _ _ e))
    | frz e => exact .base (.frz (s _ _ e))
    | tup e => exact .base (.tup (s _ _ e))
    | dK e => exact .base (.dK (s _ _ e))
    | dT e => exact .base (.dT (s _ _ e))
    | ins e cl ha hn htk hm => exact .base (.ins (s _ _ e) cl ha hn htk hm)
  | byt b => exact .byt b
  | set e => exact .set (s _ _ e)
  | kList e c => exact .kList e c
  | kTuple e c => exact .kTuple e c
  | kDict e c => exact .kDict e c
  | fTuple e => exact .fTuple (s _ _ e)
  | fDict e => exact .fDict (s _ _ e)
def spBases (C : Addr) : Sp := fun vs H Q _ => ∃ (x : Addr) (ks : List KRow) (fs : List FRow) (us : List URow) (root : Str), vs = [.ref x] ∧ BuiltAt C H x ks fs us root ∧ ks.length ≤ 6 ∧ fs.length ≤ 3 ∧ us.length ≤ 3 ∧
  ∀ p H', Same H H' → H p = none → H' p = some (.lst ((bsOf ks fs us).map V.str)) → Q (.ref p) H'
theorem ok_bases {f C : Addr} {fd : FuncData} (F : Fun K "bases" "Schema.bases" s_Schema_bases f fd) (L : ClT K C) (Cs : Cst K mg) : FnOk P w K mg base CX0 1 f fd ["self"] (spBases C) := by
  obtain ⟨la, g_L, hL⟩ := Cs.LEAVES
  refine F.ok sc_Schema_bases (fun vs H Q E h => ?_) (fun cdv A outer s H vs Q E hr h => ?_)
  · obtain ⟨x, ks, fs, us, root, rfl, _⟩ := h
    rfl
  · obtain ⟨x, ks, fs, us, root, rfl, Bt, k6, f3, u3, q⟩ := h
    have hnm := Bt.names
    obtain ⟨dx, kt, ft, ut, ks', fs', us', hx, S, rk, rf, ru⟩ := Bt
    obtain ⟨e1, e2, e3⟩ := hnm ks' fs' us' rk rf ru
    refine ⟨_, (pss_one (ps_ret (pe_lst (pa_star (pe_glob (v := .ref la) (by rfl) g_L rfl) (pa_starD rfl (pe_fld (pv 0) rfl) (pa_starD rfl (pe_fld (pv 0) rfl) (pa_starD rfl (pe_fld (pv 0) rfl) pa_nil))))))), ?_⟩
    refine ⟨la, _, rfl, .inl (hL H), .ref x, rfl, x, C, dx, _, _, rfl, hx, L.cl, L.nk, lkk .., kt, kkv ks', rfl, .inl S.kd, .ref x, rfl, x, C, dx, _, _, rfl, hx, L.cl, L.nf, lkf .., ft, fkvs fs', rfl, .inl S.fd, .ref x, rfl, x, C, dx, _, _, rfl, hx, L.cl, L.nu, lku .., ut, ukv us', rfl, .inl S.ud, ?_, fun p np => ?_⟩
    · show ([V.str "number", V.str "text"] ++ (dkeys (kkv ks') ++ (dkeys (fkvs fs') ++ (dkeys (ukv us') ++ [])))).length ≤ sizeLine
      have l1 := rk.1
      have l2 := rf.1
      have l3 := ru.1
      rw [List.length_append, List.length_append, List.length_append, List.length_append, dkeys_len, dkeys_len, dkeys_len, show (kkv ks').length = ks'.length from List.length_map .., show (fkvs fs').length = fs'.length from List.length_map .., show (ukv us').length = us'.length from List.length_map ..]
      exact Nat.le_trans (show 2 + (ks'.length + (fs'.length + (us'.length + 0))) ≤ 1000 by omega) (by decide)
    · have el : ([V.str "number", V.str "text"] ++ (dkeys (kkv ks') ++ (dkeys (fkvs fs') ++ (dkeys (ukv us') ++ [])))) = (bsOf ks fs us).map V.str := by
        rw [dkeys_k, dkeys_f, dkeys_u]
        unfold bsOf
        rw [List.append_nil, List.map_append, List.map_append, List.map_append, e1, e2, e3]
        rfl
      refine q p _ (same_new np) np ?_
      show (upd H p (.lst ([V.str "number", V.str "text"] ++ (dkeys (kkv ks') ++ (dkeys (fkvs fs') ++ (dkeys (ukv us') ++ [])))))) p = _
      rw [el]
      exact upd_same
def spContains (K : PySem.W.Frag) (C : Addr) : Sp := fun vs H Q _ => ∃ (x : Addr) (y : V) (ks : List KRow) (fs : List FRow) (us : List URow) (root : Str), vs = [.ref x, y] ∧ BuiltAt C H x ks fs us root ∧ ks.length ≤ 6 ∧ fs.length ≤ 3 ∧ us.length ≤ 3 ∧
  ((∃ z, y = .str z ∧ ∀ H', Same H H' → Q (.bl (decide (z ∈ bsOf ks fs us))) H') ∨ (∃ t, TyX K H y t ∧ PySem.W.kitOne K t (.type "str") = some false ∧ ∀ H', Same H H' → Q (.bl false) H'))
theorem ok_contains {f f1 f2 C : Addr} {fd fd1 fd2 : FuncData} (F : Fun K "__contains__" "Schema.__contains__" s_Schema_contains f fd) (M_bases : Mt K C "bases" "Schema.bases" s_Schema_bases f1 fd1 ["self"]) (D_is_key : Df K mg "is_key" s_is_key f2 fd2 ["name", "table"]) (T : Nms mg) (L : ClT K C)
    (G_bases : FnOk P w K mg base CX0 1 f1 fd1 ["self"] (spBases C)) (G_is_key : FnOk P w K mg base CX0 1 f2 fd2 ["name", "table"] (spIsKey K)) : FnOk P w K mg base CX0 2 f fd ["self", "base"] (spContains K C) := by
  refine F.ok sc_Schema_contains (fun vs H Q E h => ?_) (fun cdv A outer s H vs Q E hr h => ?_)
  · obtain ⟨x, y, ks, fs, us, root, rfl, _⟩ := h
    rfl
  · obtain ⟨x, y, ks, fs, us, root, rfl, Bt, k6, f3, u3, q⟩ := h
    have Bt' := Bt
    obtain ⟨dx, kt, ft, ut, ks', fs', us', hx, S, rk, rf, ru⟩ := Bt'
    refine ⟨_, (pss_one (ps_ret (pe_call G_is_key (hr.mono (by decide)) (by rfl) D_is_key.g D_is_key.F.kp D_is_key.b .nil pass0 (pa_cons (pv 1) (pa_cons (pe_meth0 (pv 0) L.cl M_bases.m G_bases (hr.mono (by decide)) M_bases.b .nil pass0) pa_nil))))), ?_⟩
    refine ⟨y, rfl, .ref x, rfl, x, dx, _, rfl, hx, lkn _ _ _ _ (by decide +kernel) (by decide +kernel) (by decide +kernel) (by decide +kernel), x, ks, fs, us, root, rfl, Bt, k6, f3, u3, fun p H1 s1 np e1 => ?_⟩
    rcases q with ⟨z, rfl, q⟩ | ⟨t, ht, hk, q⟩
    · exact ⟨.str z, p, rfl, .inl ⟨z, rfl, .inl ⟨_, .inl (SqL.of e1), q _ s1⟩⟩⟩
    · exact ⟨y, p, rfl, .inr ⟨t, NW.TyX.same s1 ht, hk, q _ s1⟩⟩

def sp_kinds (C : Addr) : Sp := fun vs H Q _ => ∃ (x : Addr) (ks : List KRow) (fs : List FRow) (us : List URow) (root : Str), vs = [.ref x] ∧ BuiltAt C H x ks fs us root ∧ ks.length ≤ 6 ∧ fs.length ≤ 3 ∧ us.length ≤ 3 ∧
  ∀ (ys : List Str) (p : Addr) H', ys.Perm (ks.map (·.nm)) → sortedS ys = true → Same H H' → H p = none → H' p = some (.lst (ys.map V.str)) → Q (.ref p) H'
theorem ok_kinds {f C : Addr} {fd : FuncData} (F : Fun K "kinds" "Schema.kinds" s_Schema_kinds f fd) (T : Nms mg) (L : ClT K C) : FnOk P w K mg base CX0 1 f fd ["self"] (sp_kinds C) := by
  refine F.ok sc_Schema_kinds (fun vs H Q E h => ?_) (fun cdv A outer s H vs Q E hr h => ?_)
  · obtain ⟨x, ks, fs, us, root, rfl, _⟩ := h
    rfl
  · obtain ⟨x, ks, fs, us, root, rfl, Bt, k6, f3, u3, q⟩ := h
    have hnm := Bt.names
    obtain ⟨dx, kt, ft, ut, ks', fs', us', hx, S, rk, rf, ru⟩ := Bt
    obtain ⟨e1, e2, e3⟩ := hnm ks' fs' us' rk rf ru
    refine ⟨_, (pss_one (ps_ret (pe_callB (call_sortedD rfl) (by rfl) T.n_sorted (by decide +kernel) (pa_cons (pe_fld (pv 0) rfl) pa_nil)))), ?_⟩
    refine ⟨.ref x, rfl, x, C, dx, _, _, rfl, hx, L.cl, L.nk, lkk .., kt, kkv ks', _, rfl, .inl S.kd, kkv_keys _, ?_, fun ys p pm so np => ?_⟩
    · have := rk.1
      rw [List.length_map]
      omega
    · refine q ys p _ ?_ so (same_new np) np upd_same
      rw [← e1]
      exact pm

def sp_faces (C : Addr) : Sp := fun vs H Q _ => ∃ (x : Addr) (ks : List KRow) (fs : List FRow) (us : List URow) (root : Str), vs = [.ref x] ∧ BuiltAt C H x ks fs us root ∧ ks.length ≤ 6 ∧ fs.length ≤ 3 ∧ us.length ≤ 3 ∧
  ∀ (ys : List Str) (p : Addr) H', ys.Perm (fs.map (·.nm)) → sortedS ys = true → Same H H' → H p = none → H' p = some (.lst (ys.map V.str)) → Q (.ref p) H'
theorem ok_faces {f C : Addr} {fd : FuncData} (F : Fun K "faces" "Schema.faces" s_Schema_faces f fd) (T : Nms mg) (L : ClT K C) : FnOk P w K mg base CX0 1 f fd ["self"] (sp_faces C) := by
  refine F.ok sc_Schema_faces (fun vs H Q E h => ?_) (fun cdv A outer s H vs Q E hr h => ?_)
  · obtain ⟨x, ks, fs, us, root, rfl, _⟩ := h
    rfl
  · obtain ⟨x, ks, fs, us, root, rfl, Bt, k6, f3, u3, q⟩ := h
    have hnm := Bt.names
    obtain ⟨dx, kt, ft, ut, ks', fs', us', hx, S, rk, rf, ru⟩ := Bt
    obtain ⟨e1, e2, e3⟩ := hnm ks' fs' us' rk rf ru
    refine ⟨_, (pss_one (ps_ret (pe_callB (call_sortedD rfl) (by rfl) T.n_sorted (by decide +kernel) (pa_cons (pe_fld (pv 0) rfl) pa_nil)))), ?_⟩
    refine ⟨.ref x, rfl, x, C, dx, _, _, rfl, hx, L.cl, L.nf, lkf .., ft, fkvs fs', _, rfl, .inl S.fd, fkvs_keys _, ?_, fun ys p pm so np => ?_⟩
    · have := rf.1
      rw [List.length_map]
      omega
    · refine q ys p _ ?_ so (same_new np) np upd_same
      rw [← e2]
      exact pm

def sp_unions (C : Addr) : Sp := fun vs H Q _ => ∃ (x : Addr) (ks : List KRow) (fs : List FRow) (us : List URow) (root : Str), vs = [.ref x] ∧ BuiltAt C H x ks fs us root ∧ ks.length ≤ 6 ∧ fs.length ≤ 3 ∧ us.length ≤ 3 ∧
  ∀ (ys : List Str) (p : Addr) H', ys.Perm (us.map (·.nm)) → sortedS ys = true → Same H H' → H p = none → H' p = some (.lst (ys.map V.str)) → Q (.ref p) H'
theorem ok_unions {f C : Addr} {fd : FuncData} (F : Fun K "unions" "Schema.unions" s_Schema_unions f fd) (T : Nms mg) (L : ClT K C) : FnOk P w K mg base CX0 1 f fd ["self"] (sp_unions C) := by
  refine F.ok sc_Schema_unions (fun vs H Q E h => ?_) (fun cdv A outer s H vs Q E hr h => ?_)
  · obtain ⟨x, ks, fs, us, root, rfl, _⟩ := h
    rfl
  · obtain ⟨x, ks, fs, us, root, rfl, Bt, k6, f3, u3, q⟩ := h
    have hnm := Bt.names
    obtain ⟨dx, kt, ft, ut, ks', fs', us', hx, S, rk, rf, ru⟩ := Bt
    obtain ⟨e1, e2, e3⟩ := hnm ks' fs' us' rk rf ru
    refine ⟨_, (pss_one (ps_ret (pe_callB (call_sortedD rfl) (by rfl) T.n_sorted (by decide +kernel) (pa_cons (pe_fld (pv 0) rfl) pa_nil)))), ?_⟩
    refine ⟨.ref x, rfl, x, C, dx, _, _, rfl, hx, L.cl, L.nu, lku .., ut, ukv us', _, rfl, .inl S.ud, ukv_keys _, ?_, fun ys p pm so np => ?_⟩
    · have := ru.1
      rw [List.length_map]
      omega
    · refine q ys p _ ?_ so (same_new np) np upd_same
      rw [← e3]
      exact pm

end
end NW
namespace NW
open PySem PySem.Spec PyProof.Rows L2
open TL (tl)
open StX (pa_star)
abbrev s_Lsame : Stmt := topS 59
abbrev N_Lsame : List Str := ["_law_one", "_law_other", "_law_key", "_law_k"]
theorem sc_Lsame : FnScope N_Lsame ["_law_one", "_law_other"] (defScope s_Lsame) := ⟨rfl, rfl, rfl, by decide +kernel, rfl, by decide +kernel, by decide +kernel⟩
theorem ix_seqK {X : Cx} (K : PySem.W.Frag) (h : X.K = K := by rfl) : IxR X (rIx K) := h ▸ ix_seq
def Sc (x : V) : Prop := x = .non ∨ (∃ b, x = .bl b) ∨ (∃ i, x = .int i) ∨ ∃ z, x = .str z
/-- x and y are the same data, so deep -/
def SameV : Nat → Hp → V → V → Prop
  | 0, _, x, y => x = y ∧ Sc y
  | n + 1, H, x, y => (x = y ∧ Sc y) ∨
    (∃ a b xs ys, x = .ref a ∧ y = .ref b ∧ ((H a = some (.lst xs) ∧ H b = some (.lst ys)) ∨ (H a = some (.tup xs) ∧ H b = some (.tup ys))) ∧ xs.length = ys.length ∧ ys.length ≤ 1000 ∧ ∀ (i : Nat) u v, xs[i]? = some u → ys[i]? = some v → SameV n H u v) ∨
    (∃ a b kvs lvs, x = .ref a ∧ y = .ref b ∧ H a = some (.dK kvs) ∧ H b = some (.dK lvs) ∧ kvs.length = lvs.length ∧ lvs.length ≤ 1000 ∧ (lvs.map (·.1)).Nodup ∧ ∀ k v, (k, v) ∈ lvs → valV kvs k = some v ∧ Sc v)
theorem SameV.same {H H' : Hp} (s : Same H H') : ∀ {n : Nat} {x y : V}, SameV n H x y → SameV n H' x y := by
  intro n
  induction n with
  | zero => intro x y h; exact h
  | succ n ih =>
    rintro x y (h | ⟨a, b, xs, ys, e1, e2, h, hl, h1, h2⟩ | ⟨a, b, kvs, lvs, e1, e2, h1, h2, h3⟩)
    · exact .inl h
    · refine .inr (.inl ⟨a, b, xs, ys, e1, e2, ?_, hl, h1, fun i u v eu ev => ih (h2 i u v eu ev)⟩)
      rcases h with ⟨p, q⟩ | ⟨p, q⟩
      · exact .inl ⟨s _ _ p, s _ _ q⟩
      · exact .inr ⟨s _ _ p, s _ _ q⟩
    · exact .inr (.inr ⟨a, b, kvs, lvs, e1, e2, s _ _ h1, s _ _ h2, h3⟩)
theorem SameV.up {H : Hp} : ∀ {n : Nat} {x y : V}, SameV n H x y → SameV (n + 1) H x y := by
  intro n
  induction n with
  | zero => intro x y h; exact .inl h
  | succ n ih =>
    rintro x y (h | ⟨a, b, xs, ys, e1, e2, h, hl, h1, h2⟩ | h)
    · exact .inl h
    · exact .inr (.inl ⟨a, b, xs, ys, e1, e2, h, hl, h1, fun i u v eu ev => ih (h2 i u v eu ev)⟩)
    · exact .inr (.inr h)
theorem SameV.strs {H : Hp} {a b : Addr} {l : List Str} (ha : H a = some (.lst (l.map V.str))) (hb : H b = some (.lst (l.map V.str))) (hl : l.length ≤ 1000) : SameV 1 H (.ref a) (.ref b) :=
  .inr (.inl ⟨a, b, _, _, rfl, rfl, .inl ⟨ha, hb⟩, rfl, by rw [List.length_map]; exact hl, fun i u v eu ev => by
    rw [eu] at ev
    cases ev
    rw [List.getElem?_map] at eu
    cases e : l[i]? with
    | none => rw [e] at eu; cases eu
    | some z =>
      rw [e] at eu
      cases eu
      exact ⟨rfl, .inr (.inr (.inr ⟨z, rfl⟩))⟩⟩)
section
variable {P : Program} {w : World} {K : PySem.W.Frag} {mg : Str → Option Value} {base : Heap}

def spLsame (n : Nat) : Sp := fun vs H Q _ => ∃ x y, vs = [x, y] ∧ SameV n H x y ∧ ∀ H', Same H H' → Q (.bl true) H'
theorem ok_Lsame {f : Addr} {fd : FuncData} (D_Lsame : Df K mg "_law_same" s_Lsame f fd ["_law_one", "_law_other"]) (T : Nms mg) : ∀ n : Nat, FnOk P w K mg base CX0 (n + 1) f fd ["_law_one", "_law_other"] (spLsame n) := by
  intro n
  induction n with
  | zero =>
    refine D_Lsame.F.ok sc_Lsame (fun vs H Q E h => ?_) (fun cdv A outer s H vs Q E hr h => ?_)
    · obtain ⟨x, y, rfl, _⟩ := h
      rfl
    · obtain ⟨x, y, rfl, h, q⟩ := h
      refine ⟨_, (pss_cons (ps_if (pt_val (pe_callB call_isi (by rfl) T.n_isinstance (by decide +kernel) (pa_cons (pv 1) (pa_cons (pe_bltn (v := .ty "dict") (by rfl) T.n_dict (by decide +kernel) rfl) pa_nil)))) (pss_cons ps_never (pss_cons ps_never (pss_one ps_never))) pss_nil)
      (pss_cons (ps_if (PW.pt (pw_or (pt_val (pe_callB call_isi (by rfl) T.n_isinstance (by decide +kernel) (pa_cons (pv 1) (pa_cons (pe_bltn (v := .ty "list") (by rfl) T.n_list (by decide +kernel) rfl) pa_nil)))) (pw_or1 (pt_val (pe_callB call_isi (by rfl) T.n_isinstance (by decide +kernel) (pa_cons (pv 1) (pa_cons (pe_bltn (v := .ty "tuple") (by rfl) T.n_tuple (by decide +kernel) rfl) pa_nil))))))) (pss_cons ps_never (pss_cons ps_never (pss_one ps_never))) pss_nil)
      (pss_cons (ps_if (pt_cmpR op_isN (pv 1) pe_non (nomark _))
       (pss_one (ps_ret (pe_cmpR op_isN (pv 0) pe_non (nomark _))))
       pss_nil)
      (pss_cons (ps_if (pt_val (pe_callB call_isi (by rfl) T.n_isinstance (by decide +kernel) (pa_cons (pv 1) (pa_cons (pe_bltn (v := .ty "str") (by rfl) T.n_str (by decide +kernel) rfl) pa_nil))))
       (pss_one (ps_ret (pe_and (pe_callB call_isi (by rfl) T.n_isinstance (by decide +kernel) (pa_cons (pv 0) (pa_cons (pe_bltn (v := .ty "str") (by rfl) T.n_str (by decide +kernel) rfl) pa_nil))) (pe_one (pe_cmpR op_eq (pv 0) (pv 1) (nomark _))))))
       pss_nil)
      (pss_one (ps_ret (pe_and (pe_callB call_isi (by rfl) T.n_isinstance (by decide +kernel) (pa_cons (pv 0) (pa_cons (pe_bltn (v := .ty "int") (by rfl) T.n_int (by decide +kernel) rfl) pa_nil))) (pe_and (pe_cmpR op_eq (pe_callB call_isi (by rfl) T.n_isinstance (by decide +kernel) (pa_cons (pv 0) (pa_cons (pe_bltn (v := .ty "bool") (by rfl) T.n_bool (by decide +kernel) rfl) pa_nil))) (pe_callB call_isi (by rfl) T.n_isinstance (by decide +kernel) (pa_cons (pv 1) (pa_cons (pe_bltn (v := .ty "bool") (by rfl) T.n_bool (by decide +kernel) rfl) pa_nil))) (nomark _)) (pe_one (pe_cmpR op_eq (pv 0) (pv 1) (nomark _))))))))))), ?_⟩
      obtain ⟨rfl, sc⟩ := h
      rcases sc with rfl | ⟨bb, rfl⟩ | ⟨ii, rfl⟩ | ⟨zz, rfl⟩
      · refine ⟨.non, rfl, _, _, _, _, false, rfl, .ty "dict", .base .non, kit_ty (by decide +kernel), false, rfl, iteF ?_⟩
        refine ⟨.non, rfl, _, _, _, _, false, rfl, .ty "list", .base .non, kit_ty (by decide +kernel), false, rfl, iteF ⟨.non, rfl, _, _, _, _, false, rfl, .ty "tuple", .base .non, kit_ty (by decide +kernel), false, rfl, iteF ?_⟩⟩
        refine ⟨.non, rfl, rfl, true, blT rfl, iteT ⟨.non, rfl, rfl, ?_⟩⟩
        rw [decide_eq_true rfl]
        exact q _ (Same.refl _)
      · refine ⟨.bl bb, rfl, _, _, _, _, false, rfl, .ty "dict", .base (.bl bb), kit_ty (by decide +kernel), false, rfl, iteF ?_⟩
        refine ⟨.bl bb, rfl, _, _, _, _, false, rfl, .ty "list", .base (.bl bb), kit_ty (by decide +kernel), false, rfl, iteF ⟨.bl bb, rfl, _, _, _, _, false, rfl, .ty "tuple", .base (.bl bb), kit_ty (by decide +kernel), false, rfl, iteF ?_⟩⟩
        refine ⟨.bl bb, rfl, rfl, false, blF (by intro z; cases z), iteF ?_⟩
        refine ⟨.bl bb, rfl, _, _, _, _, false, rfl, .ty "str", .base (.bl bb), kit_ty (by decide +kernel), false, rfl, iteF ⟨.bl bb, rfl, _, _, _, _, true, rfl, .ty "int", .base (.bl bb), kit_ty (by decide +kernel), true, rfl, iteT ⟨.bl bb, rfl, _, _, _, _, true, rfl, .ty "bool", .base (.bl bb), kit_ty (by decide +kernel), .bl bb, rfl, _, _, _, _, true, rfl, .ty "bool", .base (.bl bb), kit_ty (by decide +kernel), rfl, true, blT rfl, iteT ⟨.bl bb, rfl, .bl bb, rfl, rfl, ?_⟩⟩⟩⟩
        rw [decide_eq_true rfl]
        exact q _ (Same.refl _)
      · refine ⟨.int ii, rfl, _, _, _, _, false, rfl, .ty "dict", .base (.int ii), kit_ty (by decide +kernel), false, rfl, iteF ?_⟩
        refine ⟨.int ii, rfl, _, _, _, _, false, rfl, .ty "list", .base (.int ii), kit_ty (by decide +kernel), false, rfl, iteF ⟨.int ii, rfl, _, _, _, _, false, rfl, .ty "tuple", .base (.int ii), kit_ty (by decide +kernel), false, rfl, iteF ?_⟩⟩
        refine ⟨.int ii, rfl, rfl, false, blF (by intro z; cases z), iteF ?_⟩
        refine ⟨.int ii, rfl, _, _, _, _, false, rfl, .ty "str", .base (.int ii), kit_ty (by decide +kernel), false, rfl, iteF ⟨.int ii, rfl, _, _, _, _, true, rfl, .ty "int", .base (.int ii), kit_ty (by decide +kernel), true, rfl, iteT ⟨.int ii, rfl, _, _, _, _, false, rfl, .ty "bool", .base (.int ii), kit_ty (by decide +kernel), .int ii, rfl, _, _, _, _, false, rfl, .ty "bool", .base (.int ii), kit_ty (by decide +kernel), rfl, true, blT rfl, iteT ⟨.int ii, rfl, .int ii, rfl, rfl, ?_⟩⟩⟩⟩
        rw [decide_eq_true rfl]
        exact q _ (Same.refl _)
      · refine ⟨.str zz, rfl, _, _, _, _, false, rfl, .ty "dict", .base (.str zz), kit_ty (by decide +kernel), false, rfl, iteF ?_⟩
        refine ⟨.str zz, rfl, _, _, _, _, false, rfl, .ty "list", .base (.str zz), kit_ty (by decide +kernel), false, rfl, iteF ⟨.str zz, rfl, _, _, _, _, false, rfl, .ty "tuple", .base (.str zz), kit_ty (by decide +kernel), false, rfl, iteF ?_⟩⟩
        refine ⟨.str zz, rfl, rfl, false, blF (by intro z; cases z), iteF ?_⟩
        refine ⟨.str zz, rfl, _, _, _, _, true, rfl, .ty "str", .base (.str zz), kit_ty (by decide +kernel), true, rfl, iteT ⟨.str zz, rfl, _, _, _, _, true, rfl, .ty "str", .base (.str zz), kit_ty (by decide +kernel), true, rfl, iteT ⟨.str zz, rfl, .str zz, rfl, rfl, ?_⟩⟩⟩
        rw [decide_eq_true rfl]
        exact q _ (Same.refl _)
  | succ n ih =>
    have G_Lsame := ih
    refine D_Lsame.F.ok sc_Lsame (fun vs H Q E h => ?_) (fun cdv A outer s H vs Q E hr h => ?_)
    · obtain ⟨x, y, rfl, _⟩ := h
      rfl
    · obtain ⟨x, y, rfl, h, q⟩ := h
      have hu := hu_of hr
      refine ⟨_, (pss_cons (ps_if (pt_val (pe_callB call_isi (by rfl) T.n_isinstance (by decide +kernel) (pa_cons (pv 1) (pa_cons (pe_bltn (v := .ty "dict") (by rfl) T.n_dict (by decide +kernel) rfl) pa_nil))))
       (pss_cons (ps_if (PW.pt (pw_or (pt_not (pt_val (pe_callB call_isi (by rfl) T.n_isinstance (by decide +kernel) (pa_cons (pv 0) (pa_cons (pe_bltn (v := .ty "dict") (by rfl) T.n_dict (by decide +kernel) rfl) pa_nil))))) (pw_or1 (pt_cmpR op_ne (pe_callB call_lenR (by rfl) T.n_len (by decide +kernel) (pa_cons (pv 0) pa_nil)) (pe_callB call_lenR (by rfl) T.n_len (by decide +kernel) (pa_cons (pv 1) pa_nil)) (nomark _)))))
         (pss_one (ps_ret pe_bl))
         pss_nil)
        (pss_cons (ps_if (pt_not (pt_val (pe_callB (cr_all rfl) (by rfl) T.n_all (by decide +kernel) (pa_cons (pe_lock (pe_lc (own := [("_law_key", 2)]) (g := (gName 2)) (tt := tYes) rfl sc_Lsame.nd (pi_keys (pv 1)) (blkOk_by (own := [("_law_key", 2)]) (N := N_Lsame) (sc := defScope s_Lsame) (by decide +kernel)) (fun _ _ _ _ _ => (pg_name (i := 2) sc_Lsame.nd rfl (.inl rfl))) (fun _ _ _ _ _ => pts_nil) (fun _ _ _ _ _ => (pe_cmp (pc_din hu (pv 2) (pv 0)) rfl)))) pa_nil))))
         (pss_one (ps_ret pe_bl))
         pss_nil)
        (pss_one (ps_ret (pe_callB (cr_all rfl) (by rfl) T.n_all (by decide +kernel) (pa_cons (pe_lock (pe_lc (own := [("_law_key", 2)]) (g := (gName 2)) (tt := tYes) rfl sc_Lsame.nd (pi_keys (pv 1)) (blkOk_by (own := [("_law_key", 2)]) (N := N_Lsame) (sc := defScope s_Lsame) (by decide +kernel)) (fun _ _ _ _ _ => (pg_name (i := 2) sc_Lsame.nd rfl (.inl rfl))) (fun _ _ _ _ _ => pts_nil) (fun _ _ _ _ _ => (pe_call G_Lsame (hr.mono (by omega)) (by rfl) D_Lsame.g D_Lsame.F.kp D_Lsame.b .nil pass0 (pa_cons (pe_dget hu (pv 0) (pv 2) (fun _ _ => rfl)) (pa_cons (pe_dget hu (pv 1) (pv 2) (fun _ _ => rfl)) pa_nil)))))) pa_nil))))))
       pss_nil)
      (pss_cons (ps_if (PW.pt (pw_or (pt_val (pe_callB call_isi (by rfl) T.n_isinstance (by decide +kernel) (pa_cons (pv 1) (pa_cons (pe_bltn (v := .ty "list") (by rfl) T.n_list (by decide +kernel) rfl) pa_nil)))) (pw_or1 (pt_val (pe_callB call_isi (by rfl) T.n_isinstance (by decide +kernel) (pa_cons (pv 1) (pa_cons (pe_bltn (v := .ty "tuple") (by rfl) T.n_tuple (by decide +kernel) rfl) pa_nil)))))))
       (pss_cons (ps_if (pt_cmpR op_ne (pe_callB call_isi (by rfl) T.n_isinstance (by decide +kernel) (pa_cons (pv 0) (pa_cons (pe_bltn (v := .ty "list") (by rfl) T.n_list (by decide +kernel) rfl) pa_nil))) (pe_callB call_isi (by rfl) T.n_isinstance (by decide +kernel) (pa_cons (pv 1) (pa_cons (pe_bltn (v := .ty "list") (by rfl) T.n_list (by decide +kernel) rfl) pa_nil))) (nomark _))
         (pss_one (ps_ret pe_bl))
         pss_nil)
        (pss_cons (ps_if (PW.pt (pw_or (pt_cmpR op_ne (pe_callB call_isi (by rfl) T.n_isinstance (by decide +kernel) (pa_cons (pv 0) (pa_cons (pe_bltn (v := .ty "tuple") (by rfl) T.n_tuple (by decide +kernel) rfl) pa_nil))) (pe_callB call_isi (by rfl) T.n_isinstance (by decide +kernel) (pa_cons (pv 1) (pa_cons (pe_bltn (v := .ty "tuple") (by rfl) T.n_tuple (by decide +kernel) rfl) pa_nil))) (nomark _)) (pw_or1 (pt_cmpR op_ne (pe_callB call_len_seq (by rfl) T.n_len (by decide +kernel) (pa_cons (pv 0) pa_nil)) (pe_callB call_len_seq (by rfl) T.n_len (by decide +kernel) (pa_cons (pv 1) pa_nil)) (nomark _)))))
         (pss_one (ps_ret pe_bl))
         pss_nil)
        (pss_one (ps_ret (pe_callB (cr_all rfl) (by rfl) T.n_all (by decide +kernel) (pa_cons (pe_lc (own := [("_law_k", 3)]) (g := (gName 3)) (tt := tYes) rfl sc_Lsame.nd (pi_range1 (by rfl) T.n_range (pa_cons (pe_callB call_len_seq (by rfl) T.n_len (by decide +kernel) (pa_cons (pv 1) pa_nil)) pa_nil)) (blkOk_by (own := [("_law_k", 3)]) (N := N_Lsame) (sc := defScope s_Lsame) (by decide +kernel)) (fun _ _ _ _ _ => (pg_name (i := 3) sc_Lsame.nd rfl (.inl rfl))) (fun _ _ _ _ _ => pts_nil) (fun _ _ _ _ _ => (pe_call G_Lsame (hr.mono (by omega)) (by rfl) D_Lsame.g D_Lsame.F.kp D_Lsame.b .nil pass0 (pa_cons (pe_ix (ix_seqK K) (pv 0) (pv 3) (fun _ _ => rfl)) (pa_cons (pe_ix (ix_seqK K) (pv 1) (pv 3) (fun _ _ => rfl)) pa_nil))))) pa_nil))))))
       pss_nil)
      (pss_cons (ps_if (pt_cmpR op_isN (pv 1) pe_non (nomark _))
       (pss_one (ps_ret (pe_cmpR op_isN (pv 0) pe_non (nomark _))))
       pss_nil)
      (pss_cons (ps_if (pt_val (pe_callB call_isi (by rfl) T.n_isinstance (by decide +kernel) (pa_cons (pv 1) (pa_cons (pe_bltn (v := .ty "str") (by rfl) T.n_str (by decide +kernel) rfl) pa_nil))))
       (pss_one (ps_ret (pe_and (pe_callB call_isi (by rfl) T.n_isinstance (by decide +kernel) (pa_cons (pv 0) (pa_cons (pe_bltn (v := .ty "str") (by rfl) T.n_str (by decide +kernel) rfl) pa_nil))) (pe_one (pe_cmpR op_eq (pv 0) (pv 1) (nomark _))))))
       pss_nil)
      (pss_one (ps_ret (pe_and (pe_callB call_isi (by rfl) T.n_isinstance (by decide +kernel) (pa_cons (pv 0) (pa_cons (pe_bltn (v := .ty "int") (by rfl) T.n_int (by decide +kernel) rfl) pa_nil))) (pe_and (pe_cmpR op_eq (pe_callB call_isi (by rfl) T.n_isinstance (by decide +kernel) (pa_cons (pv 0) (pa_cons (pe_bltn (v := .ty "bool") (by rfl) T.n_bool (by decide +kernel) rfl) pa_nil))) (pe_callB call_isi (by rfl) T.n_isinstance (by decide +kernel) (pa_cons (pv 1) (pa_cons (pe_bltn (v := .ty "bool") (by rfl) T.n_bool (by decide +kernel) rfl) pa_nil))) (nomark _)) (pe_one (pe_cmpR op_eq (pv 0) (pv 1) (nomark _))))))))))), ?_⟩
      rcases h with h | ⟨a, b, xs, ys, rfl, rfl, h, hl, h1, h2⟩ | ⟨a, b, kvs, lvs, rfl, rfl, ha, hb, hl, h1, hnd, h2⟩
      · skip
        obtain ⟨rfl, sc⟩ := h
        rcases sc with rfl | ⟨bb, rfl⟩ | ⟨ii, rfl⟩ | ⟨zz, rfl⟩
        · refine ⟨.non, rfl, _, _, _, _, false, rfl, .ty "dict", .base .non, kit_ty (by decide +kernel), false, rfl, iteF ?_⟩
          refine ⟨.non, rfl, _, _, _, _, false, rfl, .ty "list", .base .non, kit_ty (by decide +kernel), false, rfl, iteF ⟨.non, rfl, _, _, _, _, false, rfl, .ty "tuple", .base .non, kit_ty (by decide +kernel), false, rfl, iteF ?_⟩⟩
          refine ⟨.non, rfl, rfl, true, blT rfl, iteT ⟨.non, rfl, rfl, ?_⟩⟩
          rw [decide_eq_true rfl]
          exact q _ (Same.refl _)
        · refine ⟨.bl bb, rfl, _, _, _, _, false, rfl, .ty "dict", .base (.bl bb), kit_ty (by decide +kernel), false, rfl, iteF ?_⟩
          refine ⟨.bl bb, rfl, _, _, _, _, false, rfl, .ty "list", .base (.bl bb), kit_ty (by decide +kernel), false, rfl, iteF ⟨.bl bb, rfl, _, _, _, _, false, rfl, .ty "tuple", .base (.bl bb), kit_ty (by decide +kernel), false, rfl, iteF ?_⟩⟩
          refine ⟨.bl bb, rfl, rfl, false, blF (by intro z; cases z), iteF ?_⟩
          refine ⟨.bl bb, rfl, _, _, _, _, false, rfl, .ty "str", .base (.bl bb), kit_ty (by decide +kernel), false, rfl, iteF ⟨.bl bb, rfl, _, _, _, _, true, rfl, .ty "int", .base (.bl bb), kit_ty (by decide +kernel), true, rfl, iteT ⟨.bl bb, rfl, _, _, _, _, true, rfl, .ty "bool", .base (.bl bb), kit_ty (by decide +kernel), .bl bb, rfl, _, _, _, _, true, rfl, .ty "bool", .base (.bl bb), kit_ty (by decide +kernel), rfl, true, blT rfl, iteT ⟨.bl bb, rfl, .bl bb, rfl, rfl, ?_⟩⟩⟩⟩
          rw [decide_eq_true rfl]
          exact q _ (Same.refl _)
        · refine ⟨.int ii, rfl, _, _, _, _, false, rfl, .ty "dict", .base (.int ii), kit_ty (by decide +kernel), false, rfl, iteF ?_⟩
          refine ⟨.int ii, rfl, _, _, _, _, false, rfl, .ty "list", .base (.int ii), kit_ty (by decide +kernel), false, rfl, iteF ⟨.int ii, rfl, _, _, _, _, false, rfl, .ty "tuple", .base (.int ii), kit_ty (by decide +kernel), false, rfl, iteF ?_⟩⟩
          refine ⟨.int ii, rfl, rfl, false, blF (by intro z; cases z), iteF ?_⟩
          refine ⟨.int ii, rfl, _, _, _, _, false, rfl, .ty "str", .base (.int ii), kit_ty (by decide +kernel), false, rfl, iteF ⟨.int ii, rfl, _, _, _, _, true, rfl, .ty "int", .base (.int ii), kit_ty (by decide +kernel), true, rfl, iteT ⟨.int ii, rfl, _, _, _, _, false, rfl, .ty "bool", .base (.int ii), kit_ty (by decide +kernel), .int ii, rfl, _, _, _, _, false, rfl, .ty "bool", .base (.int ii), kit_ty (by decide +kernel), rfl, true, blT rfl, iteT ⟨.int ii, rfl, .int ii, rfl, rfl, ?_⟩⟩⟩⟩
          rw [decide_eq_true rfl]
          exact q _ (Same.refl _)
        · refine ⟨.str zz, rfl, _, _, _, _, false, rfl, .ty "dict", .base (.str zz), kit_ty (by decide +kernel), false, rfl, iteF ?_⟩
          refine ⟨.str zz, rfl, _, _, _, _, false, rfl, .ty "list", .base (.str zz), kit_ty (by decide +kernel), false, rfl, iteF ⟨.str zz, rfl, _, _, _, _, false, rfl, .ty "tuple", .base (.str zz), kit_ty (by decide +kernel), false, rfl, iteF ?_⟩⟩
          refine ⟨.str zz, rfl, rfl, false, blF (by intro z; cases z), iteF ?_⟩
          refine ⟨.str zz, rfl, _, _, _, _, true, rfl, .ty "str", .base (.str zz), kit_ty (by decide +kernel), true, rfl, iteT ⟨.str zz, rfl, _, _, _, _, true, rfl, .ty "str", .base (.str zz), kit_ty (by decide +kernel), true, rfl, iteT ⟨.str zz, rfl, .str zz, rfl, rfl, ?_⟩⟩⟩
          rw [decide_eq_true rfl]
          exact q _ (Same.refl _)
      · -- lists, tuples
        rcases h with ⟨ha, hb⟩ | ⟨ha, hb⟩
        · refine ⟨.ref b, rfl, _, _, _, _, false, rfl, .ty "dict", .base (.lst hb), kit_ty (by decide +kernel), false, rfl, iteF ?_⟩
          refine ⟨.ref b, rfl, _, _, _, _, true, rfl, .ty "list", .base (.lst hb), kit_ty (by decide +kernel), true, rfl, iteT ?_⟩
          refine ⟨.ref a, rfl, _, _, _, _, true, rfl, .ty "list", .base (.lst ha), kit_ty (by decide +kernel), .ref b, rfl, _, _, _, _, true, rfl, .ty "list", .base (.lst hb), kit_ty (by decide +kernel), rfl, false, blNF rfl, iteF ?_⟩
          refine ⟨.ref a, rfl, _, _, _, _, false, rfl, .ty "tuple", .base (.lst ha), kit_ty (by decide +kernel), .ref b, rfl, _, _, _, _, false, rfl, .ty "tuple", .base (.lst hb), kit_ty (by decide +kernel), rfl, false, blNF rfl, iteF ⟨.ref a, rfl, a, xs, rfl, .inl (SqL.of ha), .ref b, rfl, b, ys, rfl, .inl (SqL.of hb), rfl, false, blNF (by rw [hl]), iteF ?_⟩⟩
          refine ⟨.ref b, rfl, b, ys, rfl, .inl (SqL.of hb), ys.length, rfl, by omega, by omega, fun Da nD => ?_⟩
          refine lc_all (walk_range (lo := 0) (n := ys.length)) (fun i x => x = .int (0 + (i : Int))) (fun i H x H' hi y => y) (fun _ _ => trivial) nD h1 (fun _ => rfl) ?_ ?_
          · rintro i x H2 Q2 hi rfl sm k
            have ex : xs[i]? = some (xs[i]'(by omega)) := List.getElem?_eq_getElem _
            have ey : ys[i]? = some ys[i] := List.getElem?_eq_getElem _
            exact ⟨.ref a, rfl, _, rfl, .inl ⟨a, xs, _, _, rfl, rfl, SqL.of (sm _ _ ha), at_of (j := i) (by omega) ex, .ref b, rfl, _, rfl, .inl ⟨b, ys, _, _, rfl, rfl, SqL.of (sm _ _ hb), at_of (j := i) (by omega) ey, _, _, rfl, SameV.same sm (h2 i _ _ ex ey), k⟩⟩⟩
          · intro H2 sm e2
            refine ⟨Da, List.replicate ys.length true, rfl, SqL.of e2, ?_⟩
            rw [all_true]
            exact q _ sm
        · refine ⟨.ref b, rfl, _, _, _, _, false, rfl, .ty "dict", .base (.tup hb), kit_ty (by decide +kernel), false, rfl, iteF ?_⟩
          refine ⟨.ref b, rfl, _, _, _, _, false, rfl, .ty "list", .base (.tup hb), kit_ty (by decide +kernel), false, rfl, iteF ⟨.ref b, rfl, _, _, _, _, true, rfl, .ty "tuple", .base (.tup hb), kit_ty (by decide +kernel), true, rfl, ?_⟩⟩
          refine iteT ?_
          refine ⟨.ref a, rfl, _, _, _, _, false, rfl, .ty "list", .base (.tup ha), kit_ty (by decide +kernel), .ref b, rfl, _, _, _, _, false, rfl, .ty "list", .base (.tup hb), kit_ty (by decide +kernel), rfl, false, blNF rfl, iteF ?_⟩
          refine ⟨.ref a, rfl, _, _, _, _, true, rfl, .ty "tuple", .base (.tup ha), kit_ty (by decide +kernel), .ref b, rfl, _, _, _, _, true, rfl, .ty "tuple", .base (.tup hb), kit_ty (by decide +kernel), rfl, false, blNF rfl, iteF ⟨.ref a, rfl, a, xs, rfl, .inr (.inl (.inl ha)), .ref b, rfl, b, ys, rfl, .inr (.inl (.inl hb)), rfl, false, blNF (by rw [hl]), iteF ?_⟩⟩
          refine ⟨.ref b, rfl, b, ys, rfl, .inr (.inl (.inl hb)), ys.length, rfl, by omega, by omega, fun Da nD => ?_⟩
          refine lc_all (walk_range (lo := 0) (n := ys.length)) (fun i x => x = .int (0 + (i : Int))) (fun i H x H' hi y => y) (fun _ _ => trivial) nD h1 (fun _ => rfl) ?_ ?_
          · rintro i x H2 Q2 hi rfl sm k
            have ex : xs[i]? = some (xs[i]'(by omega)) := List.getElem?_eq_getElem _
            have ey : ys[i]? = some ys[i] := List.getElem?_eq_getElem _
            exact ⟨.ref a, rfl, _, rfl, .inr (.inl ⟨a, xs, _, _, rfl, rfl, .inl (.inl (sm _ _ ha)), at_of (j := i) (by omega) ex, .ref b, rfl, _, rfl, .inr (.inl ⟨b, ys, _, _, rfl, rfl, .inl (.inl (sm _ _ hb)), at_of (j := i) (by omega) ey, _, _, rfl, SameV.same sm (h2 i _ _ ex ey), k⟩)⟩)⟩
          · intro H2 sm e2
            refine ⟨Da, List.replicate ys.length true, rfl, SqL.of e2, ?_⟩
            rw [all_true]
            exact q _ sm

      · -- dicts
        refine ⟨.ref b, rfl, _, _, _, _, true, rfl, .ty "dict", .base (.dK hb), kit_ty (by decide +kernel), true, rfl, iteT ?_⟩
        refine ⟨.ref a, rfl, _, _, _, _, true, rfl, .ty "dict", .base (.dK ha), kit_ty (by decide +kernel), true, rfl, iteF ⟨.ref a, rfl, a, kvs, rfl, .inl ha, .ref b, rfl, b, lvs, rfl, .inl hb, rfl, false, blNF (by rw [hl]), iteF ?_⟩⟩
        -- all keys
        refine ⟨b, .dK lvs, hb, trivial, fun od => ⟨.ref b, rfl, b, od, rfl, .inl ⟨lvs, upd_same, fun Da nD => ?_⟩⟩⟩
        have rd1 : ∀ {H2 : Hp} {od : Obj}, Same (upd H b (.frz od (.dK lvs))) H2 → Rd H2 a (.dK kvs) := fun sm => rd_same sm (rd_put hb ha)
        refine lc_all walk_keys (fun i x => ∃ k v, (k, v) ∈ lvs ∧ x = kV k) ?_ (fun H sm => sm _ _ upd_same) nD h1 (fun _ => rfl) ?_ ?_
        · rintro i H x H' hi ⟨rfl, k, v, e, rfl⟩
          exact ⟨rfl, k, v, List.mem_of_getElem? e, rfl⟩
        · rintro i x H2 Q2 hi ⟨k, v, m, rfl⟩ sm kk
          refine ⟨kV k, rfl, .ref a, rfl, a, _, rfl, .inl ⟨kvs, k, rd1 sm, rfl, rfl⟩, ?_⟩
          rw [(h2 k v m).1]
          exact kk _ (Same.refl _)
        · intro H2 sm e2
          refine ⟨sm _ _ upd_same, Da, List.replicate lvs.length true, rfl, SqL.of ?_, true, by rw [all_true], iteF ?_⟩
          · rw [upd_ne (show Da ≠ b from fun z => by rw [z, upd_same] at nD; cases nD)]
            exact e2
          have s3 : Same H (upd H2 b (.dK lvs)) := same_unlock hb sm
          generalize upd H2 b (.dK lvs) = H3 at s3
          have ha3 := s3 _ _ ha
          have hb3 := s3 _ _ hb
          clear e2 sm nD rd1
          refine ⟨b, .dK lvs, hb3, trivial, fun od => ⟨.ref b, rfl, b, od, rfl, .inl ⟨lvs, upd_same, fun Db nE => ?_⟩⟩⟩
          have rd1 : ∀ {H2 : Hp} {od : Obj}, Same (upd H3 b (.frz od (.dK lvs))) H2 → Rd H2 a (.dK kvs) := fun sm => rd_same sm (rd_put hb3 ha3)
          refine lc_all walk_keys (fun i x => ∃ k v, (k, v) ∈ lvs ∧ x = kV k) ?_ (fun H sm => sm _ _ upd_same) nE h1 (fun _ => rfl) ?_ ?_
          · rintro i H x H' hi ⟨rfl, k, v, e, rfl⟩
            exact ⟨rfl, k, v, List.mem_of_getElem? e, rfl⟩
          · rintro i x H4 Q2 hi ⟨k, v, m, rfl⟩ sm kk
            refine ⟨.ref a, rfl, kV k, rfl, a, v, rfl, .inl ⟨kvs, k, rd1 sm, rfl, (h2 k v m).1.symm⟩, .ref b, rfl, kV k, rfl, b, v, rfl, .inl ⟨lvs, k, .inr ⟨od, sm _ _ upd_same⟩, rfl, (valV_nd hnd m).symm⟩, v, v, rfl, ?_, kk⟩
            cases n with
            | zero => exact ⟨rfl, (h2 k v m).2⟩
            | succ n => exact .inl ⟨rfl, (h2 k v m).2⟩
          · intro H4 sm e4
            refine ⟨sm _ _ upd_same, Db, List.replicate lvs.length true, rfl, SqL.of ?_, ?_⟩
            · rw [upd_ne (show Db ≠ b from fun z => by rw [z, upd_same] at nE; cases nE)]
              exact e4
            · rw [all_true]
              exact q _ (s3.trans (same_unlock hb3 sm))
end
end NW
namespace NW
open PySem PySem.Spec PyProof.Rows L2
open TL (tl)
open StX (pa_star)
abbrev s_Lbases : Stmt := topS 57
abbrev N_Lbases : List Str := ["_law_schema_here"]
theorem sc_Lbases : FnScope N_Lbases ["_law_schema_here"] (defScope s_Lbases) := ⟨rfl, rfl, rfl, by decide +kernel, rfl, by decide +kernel, by decide +kernel⟩
abbrev s_Lmade : Stmt := topS 58
abbrev N_Lmade : List Str := ["_law_schema_here"]
theorem sc_Lmade : FnScope N_Lmade ["_law_schema_here"] (defScope s_Lmade) := ⟨rfl, rfl, rfl, by decide +kernel, rfl, by decide +kernel, by decide +kernel⟩
/-! ### sorted texts are one -/
theorem lt_tot : ∀ {a b : List Nat}, ltCps a b = false → ltCps b a = false → a = b
  | [], [], _, _ => rfl
  | [], _ :: _, h, _ => by simp [ltCps] at h
  | _ :: _, [], _, h => by simp [ltCps] at h
  | x :: r, y :: t, h1, h2 => by
    simp only [ltCps, Bool.or_eq_false_iff, decide_eq_false_iff_not, Bool.and_eq_false_iff, beq_eq_false_iff_ne] at h1 h2
    have e : x = y := by omega
    subst e
    have h3 : ltCps r t = false := by
      rcases h1.2 with h | h
      · exact absurd rfl h
      · exact h
    have h4 : ltCps t r = false := by
      rcases h2.2 with h | h
      · exact absurd rfl h
      · exact h
    rw [lt_tot h3 h4]
theorem lt_trans' : ∀ {a b c : List Nat}, ltCps b a = false → ltCps c b = false → ltCps c a = false
  | [], _, [], _, _ => rfl
  | _ :: _, _, [], h1, h2 => by
    rename_i x r b
    cases b with
    | nil => simp [ltCps] at h1
    | cons y t => simp [ltCps] at h2
  | [], _, _ :: _, _, _ => rfl
  | x :: r, [], z :: u, h1, _ => by simp [ltCps] at h1
  | x :: r, y :: t, z :: u, h1, h2 => by
    simp only [ltCps, Bool.or_eq_false_iff, decide_eq_false_iff_not, Bool.and_eq_false_iff, beq_eq_false_iff_ne] at h1 h2 ⊢
    refine ⟨by omega, ?_⟩
    by_cases e : z = x
    · right
      have e1 : x = y := by omega
      have e2 : y = z := by omega
      subst e1
      rcases h1.2 with h | h
      · exact absurd rfl h
      · rcases h2.2 with h' | h'
        · exact absurd e2.symm h'
        · exact lt_trans' h h'
    · exact .inl e
theorem risingS_pw : ∀ {l : List Str} {p : Str}, risingS p l = true → (p :: l).Pairwise fun a b => ltCps (tl b) (tl a) = false
  | [], p, _ => by simp
  | x :: r, p, h => by
    simp only [risingS, Bool.and_eq_true, Bool.not_eq_true'] at h
    have ih := risingS_pw h.2
    refine List.pairwise_cons.mpr ⟨fun y hy => ?_, ih⟩
    rcases List.mem_cons.mp hy with rfl | hy
    · exact h.1
    · exact lt_trans' h.1 ((List.pairwise_cons.mp ih).1 y hy)
theorem sortedS_pw : ∀ {l : List Str}, sortedS l = true → l.Pairwise fun a b => ltCps (tl b) (tl a) = false
  | [], _ => by simp
  | _ :: _, h => risingS_pw h
theorem tl_inj {a b : Str} (h : tl a = tl b) : a = b := by
  cases a
  cases b
  exact congrArg Str.mk (Array.toList_inj.mp h)
theorem sorted_one {l m : List Str} (hl : sortedS l = true) (hm : sortedS m = true) (p : l.Perm m) : l = m :=
  List.Perm.eq_of_pairwise (le := fun a b => ltCps (tl b) (tl a) = false) (fun a b _ _ h1 h2 => tl_inj (lt_tot h2 h1)) (sortedS_pw hl) (sortedS_pw hm) p
/-- the members of a base: sorted, in one of three ways -/
def MemL (ks : List KRow) (us : List URow) (z : Str) (l : List Str) : Prop := sortedS l = true ∧ l.length ≤ 6 ∧
  ((z ∈ ks.map (·.nm) ∧ l = [z]) ∨ (z ∉ ks.map (·.nm) ∧ ∃ u ∈ us, u.nm = z ∧ l.Perm u.ms) ∨ (z ∉ ks.map (·.nm) ∧ z ∉ us.map (·.nm) ∧ l.Perm ((ks.filter fun k => decide (z ∈ k.fcs)).map (·.nm))))
theorem MemL.one {ks : List KRow} {us : List URow} {z : Str} {l m : List Str} (nd : (us.map (·.nm)).Nodup) (h1 : MemL ks us z l) (h2 : MemL ks us z m) : l = m := by
  obtain ⟨a1, _, a⟩ := h1
  obtain ⟨b1, _, b⟩ := h2
  rcases a with ⟨x1, rfl⟩ | ⟨x1, u, hu, eu, p⟩ | ⟨x1, x2, p⟩
  · rcases b with ⟨_, rfl⟩ | ⟨y, _⟩ | ⟨y, _⟩
    · rfl
    · exact absurd x1 y
    · exact absurd x1 y
  · rcases b with ⟨y, _⟩ | ⟨_, v, hv, ev, p'⟩ | ⟨_, y, _⟩
    · exact absurd y x1
    · have : u = v := by
        obtain ⟨i, hi, ei⟩ := List.getElem_of_mem hu
        obtain ⟨j, hj, ej⟩ := List.getElem_of_mem hv
        have hh : (us.map (·.nm))[i]'(by rw [List.length_map]; exact hi) = (us.map (·.nm))[j]'(by rw [List.length_map]; exact hj) := by
          rw [List.getElem_map, List.getElem_map, ei, ej, eu, ev]
        have e := (List.getElem_inj nd).mp hh
        subst e
        rw [← ei, ← ej]
      subst this
      exact sorted_one a1 b1 (p.trans p'.symm)
    · exact absurd (List.mem_map.mpr ⟨u, hu, eu⟩) y
  · rcases b with ⟨y, _⟩ | ⟨_, v, hv, ev, _⟩ | ⟨_, _, p'⟩
    · exact absurd y x1
    · exact absurd (List.mem_map.mpr ⟨v, hv, ev⟩) x2
    · exact sorted_one a1 b1 (p.trans p'.symm)
section
variable {P : Program} {w : World} {K : PySem.W.Frag} {mg : Str → Option Value} {base : Heap}

def SchT (H : Hp) (q kt ft ut : Addr) (ks : List KRow) (fs : List FRow) (us : List URow) (root : Str) : Prop := H q = some (.tup [.ref kt, .ref ft, .ref ut, .str root]) ∧ SchAt H kt ft ut ks fs us ∧ SchOk ks fs us root
def spLbases : Sp := fun vs H Q _ => ∃ (q kt ft ut : Addr) (ks : List KRow) (fs : List FRow) (us : List URow) (root : Str), vs = [.ref q] ∧ SchT H q kt ft ut ks fs us root ∧
  ∀ (l : List Str) p H', l.Perm (ks.map (·.nm) ++ fs.map (·.nm) ++ us.map (·.nm)) → Same H H' → H p = none → H' p = some (.lst (l.map V.str)) → Q (.ref p) H'
theorem ok_Lbases {f : Addr} {fd : FuncData} (D : Df K mg "_law_bases" s_Lbases f fd ["_law_schema_here"]) (T : Nms mg) : FnOk P w K mg base CX0 1 f fd ["_law_schema_here"] spLbases := by
  refine D.F.ok sc_Lbases (fun vs H Q E h => ?_) (fun cdv A outer s H vs Q E hr h => ?_)
  · obtain ⟨q, kt, ft, ut, ks, fs, us, root, rfl, _⟩ := h
    rfl
  · obtain ⟨q, kt, ft, ut, ks, fs, us, root, rfl, ⟨hq, S, ok⟩, k⟩ := h
    refine ⟨_, (pss_one (ps_ret (pe_callB cr_sortedS (by rfl) T.n_sorted (by decide +kernel) (pa_cons (pe_op op_cat (pe_op op_cat (pe_callTy (call_listD rfl) (by rfl) T.n_list (by decide +kernel) (pa_cons (pe_ix (ix_tupK K) (pv 0) pe_int (fun _ _ => rfl)) pa_nil)) (pe_callTy (call_listD rfl) (by rfl) T.n_list (by decide +kernel) (pa_cons (pe_ix (ix_tupK K) (pv 0) pe_int (fun _ _ => rfl)) pa_nil))) (pe_callTy (call_listD rfl) (by rfl) T.n_list (by decide +kernel) (pa_cons (pe_ix (ix_tupK K) (pv 0) pe_int (fun _ _ => rfl)) pa_nil))) pa_nil)))), ?_⟩
    have k1 := ok.k1
    have f1 := ok.f1
    have u1 := ok.u1
    have hS : ∀ n : Nat, n ≤ 1000 → n ≤ sizeLine := fun n h => Nat.le_trans h (by decide)
    refine ⟨.ref q, rfl, q, _, 0, _, rfl, rfl, .inl (.inl hq), atI_nat (j := 0) rfl, kt, _, rfl, .inl S.kd, fun p1 np1 => ?_⟩
    have s1 := same_new (o := .lst (dkeys (kkv ks))) np1
    refine ⟨.ref q, rfl, q, _, 1, _, rfl, rfl, .inl (.inl (s1 _ _ hq)), atI_nat (j := 1) rfl, ft, _, rfl, .inl (s1 _ _ S.fd), fun p2 np2 => ?_⟩
    have s2 := same_new (o := .lst (dkeys (fkvs fs))) np2
    refine ⟨p1, p2, _, _, rfl, rfl, s2 _ _ upd_same, upd_same, hS _ ?_, fun p3 np3 => ?_⟩
    · show (dkeys (kkv ks)).length + (dkeys (fkvs fs)).length ≤ 1000
      rw [dkeys_len, dkeys_len, show (kkv ks).length = ks.length from List.length_map .., show (fkvs fs).length = fs.length from List.length_map ..]
      omega
    have s3 := same_new (o := .lst (dkeys (kkv ks) ++ dkeys (fkvs fs))) np3
    have s13 := (s1.trans s2).trans s3
    refine ⟨.ref q, rfl, q, _, 2, _, rfl, rfl, .inl (.inl (s13 _ _ hq)), atI_nat (j := 2) rfl, ut, _, rfl, .inl (s13 _ _ S.ud), fun p4 np4 => ?_⟩
    have s4 := same_new (o := .lst (dkeys (ukv us))) np4
    refine ⟨p3, p4, _, _, rfl, rfl, s4 _ _ upd_same, upd_same, hS _ ?_, fun p5 np5 => ?_⟩
    · show (dkeys (kkv ks) ++ dkeys (fkvs fs)).length + (dkeys (ukv us)).length ≤ 1000
      rw [List.length_append, dkeys_len, dkeys_len, dkeys_len, show (kkv ks).length = ks.length from List.length_map .., show (fkvs fs).length = fs.length from List.length_map .., show (ukv us).length = us.length from List.length_map ..]
      omega
    have s5 := same_new (o := .lst (dkeys (kkv ks) ++ dkeys (fkvs fs) ++ dkeys (ukv us))) np5
    have el : dkeys (kkv ks) ++ dkeys (fkvs fs) ++ dkeys (ukv us) = (ks.map (·.nm) ++ fs.map (·.nm) ++ us.map (·.nm)).map V.str := by
      rw [dkeys_k, dkeys_f, dkeys_u, List.map_append, List.map_append]
    refine ⟨p5, ks.map (·.nm) ++ fs.map (·.nm) ++ us.map (·.nm), rfl, SqL.of ?_, ?_, fun ys p pm so np => k ys p _ pm (((s13.trans s4).trans s5).trans (same_new np)) (((s13.trans s4).trans s5).free np) upd_same⟩
    · rw [← el]
      exact upd_same
    · rw [List.length_append, List.length_append, List.length_map, List.length_map, List.length_map]
      omega
def spLmade (C : Addr) : Sp := fun vs H Q _ => ∃ (q kt ft ut : Addr) (ks : List KRow) (fs : List FRow) (us : List URow) (root : Str), vs = [.ref q] ∧ SchT H q kt ft ut ks fs us root ∧
  ∀ x H', BuiltAt C H' x ks fs us root → Same H H' → H x = none → Q (.ref x) H'
theorem ok_Lmade {f fI C : Addr} {fd fdI : FuncData} (D : Df K mg "_law_made" s_Lmade f fd ["_law_schema_here"]) (T : Nms mg) (MS : Mk K C fI) (gS : mg "Schema" = some (.ref C)) (bI : Binds K fdI ["self", "kinds", "faces", "unions", "root"] [])
    (G_init : FnOk P w K mg base CX0 9 fI fdI ["self", "kinds", "faces", "unions", "root"] (spInit C)) : FnOk P w K mg base CX0 11 f fd ["_law_schema_here"] (spLmade C) := by
  refine D.F.ok sc_Lmade (fun vs H Q E h => ?_) (fun cdv A outer s H vs Q E hr h => ?_)
  · obtain ⟨q, kt, ft, ut, ks, fs, us, root, rfl, _⟩ := h
    rfl
  · obtain ⟨q, kt, ft, ut, ks, fs, us, root, rfl, ⟨hq, S, ok⟩, k⟩ := h
    refine ⟨_, (pss_one (ps_ret (pe_make MS G_init (hr.mono (by decide)) (by rfl) gS bI .nil pass0 (pa_cons (pe_callTy call_dictD (by rfl) T.n_dict (by decide +kernel) (pa_cons (pe_ix (ix_tupK K) (pv 0) pe_int (fun _ _ => rfl)) pa_nil)) (pa_cons (pe_callTy call_dictD (by rfl) T.n_dict (by decide +kernel) (pa_cons (pe_ix (ix_tupK K) (pv 0) pe_int (fun _ _ => rfl)) pa_nil)) (pa_cons (pe_callTy call_dictD (by rfl) T.n_dict (by decide +kernel) (pa_cons (pe_ix (ix_tupK K) (pv 0) pe_int (fun _ _ => rfl)) pa_nil)) (pa_cons (pe_ix (ix_tupK K) (pv 0) pe_int (fun _ _ => rfl)) pa_nil))))))), ?_⟩
    refine ⟨.ref q, rfl, q, _, 0, _, rfl, rfl, .inl (.inl hq), atI_nat (j := 0) rfl, kt, _, rfl, .inl S.kd, fun p1 np1 => ?_⟩
    have s1 := same_new (o := .dK (kkv ks)) np1
    refine ⟨.ref q, rfl, q, _, 1, _, rfl, rfl, .inl (.inl (s1 _ _ hq)), atI_nat (j := 1) rfl, ft, _, rfl, .inl (s1 _ _ S.fd), fun p2 np2 => ?_⟩
    have s2 := same_new (o := .dK (fkvs fs)) np2
    have s12 := s1.trans s2
    refine ⟨.ref q, rfl, q, _, 2, _, rfl, rfl, .inl (.inl (s12 _ _ hq)), atI_nat (j := 2) rfl, ut, _, rfl, .inl (s12 _ _ S.ud), fun p3 np3 => ?_⟩
    have s3 := same_new (o := .dK (ukv us)) np3
    have s13 := s12.trans s3
    have e1 := (s2.trans s3) _ _ (upd_same (H := H) (a := p1) (o := .dK (kkv ks)))
    have e2 := s3 _ _ (upd_same (H := upd H p1 (.dK (kkv ks))) (a := p2) (o := .dK (fkvs fs)))
    have e3 := upd_same (H := upd (upd H p1 (.dK (kkv ks))) p2 (.dK (fkvs fs))) (a := p3) (o := .dK (ukv us))
    refine ⟨.ref q, rfl, q, _, 3, _, rfl, rfl, .inl (.inl (s13 _ _ hq)), atI_nat (j := 3) rfl, ?_⟩
    intro x dx nx ndx nex
    have S3 := S.same s13
    have s4 : Same H (upd (upd (upd (upd (upd H p1 (.dK (kkv ks))) p2 (.dK (fkvs fs))) p3 (.dK (ukv us))) dx (.own x)) x (.ins C dx [])) := fun b o e => by
      have e' := s13 _ _ e
      rw [upd_ne (ne_of_none e' nx), upd_ne (ne_of_none e' ndx)]
      exact e'
    have s34 : Same (upd (upd (upd H p1 (.dK (kkv ks))) p2 (.dK (fkvs fs))) p3 (.dK (ukv us))) (upd (upd (upd (upd (upd H p1 (.dK (kkv ks))) p2 (.dK (fkvs fs))) p3 (.dK (ukv us))) dx (.own x)) x (.ins C dx [])) := fun b o e => by
      rw [upd_ne (ne_of_none e nx), upd_ne (ne_of_none e ndx)]
      exact e
    refine ⟨x, dx, p1, p2, p3, ks, fs, us, root, rfl, upd_same, ⟨s34 _ _ e1, s34 _ _ e2, s34 _ _ e3, fun k m => (S.ka k m).same s4, fun f m => (S.fa f m).same s4, fun u m => s4 _ _ (S.ua u m)⟩, ok, fun H' g bt => ⟨rfl, k x H' bt (fun b o e => ?_) (s13.free nx)⟩⟩
    exact g _ _ (ne_of_none (s13 _ _ e) nx) (s4 _ _ e)
end
end NW
namespace NW
open PySem PySem.Spec PyProof.Rows L2
open TL (tl)
open StX (pa_star)
abbrev s_NoBase_init : Stmt := inClass (topS 4) 0
abbrev N_NoBase_init : List Str := ["self", "base"]
theorem sc_NoBase_init : FnScope N_NoBase_init ["self", "base"] (defScope s_NoBase_init) := ⟨rfl, rfl, rfl, by decide +kernel, rfl, by decide +kernel, by decide +kernel⟩
abbrev s_Schema_shapes_at : Stmt := inClass (topS 35) 8
abbrev N_Schema_shapes_at : List Str := ["self", "base"]
theorem sc_Schema_shapes_at : FnScope N_Schema_shapes_at ["self", "base"] (defScope s_Schema_shapes_at) := ⟨rfl, rfl, rfl, by decide +kernel, rfl, by decide +kernel, by decide +kernel⟩
/-- the class of errors for what is no base -/
structure NoB (K : PySem.W.Frag) (mg : Str → Option Value) (C fI : Addr) : Prop where
  T : OexC K C
  iC : PySem.W.findIn K (.ref C) "__init__" = some (some (.ref fI))
  tI : PySem.W.typeIn K (.ref fI) = some (.type "function")
  g : mg "NoBase" = some (.ref C)
  no : PySem.W.findIn K (.ref C) "base" = some none
section
variable {P : Program} {w : World} {K : PySem.W.Frag} {mg : Str → Option Value} {base : Heap}

def spNB (C : Addr) : Sp := fun vs H Q _ => ∃ (a : Addr) (y : V), vs = [.ref a, y] ∧ H a = some (exo a C none) ∧ ∀ dx, H dx = none → dx ≠ a → Q .non (upd (upd H dx (exd dx [("base", y)])) a (exo a C (some dx)))
theorem ok_NB {f C : Addr} {fd : FuncData} (F : Fun K "__init__" "NoBase.__init__" s_NoBase_init f fd) (N : NoB K mg C f) : FnOk P w K mg base CX0 1 f fd ["self", "base"] (spNB C) := by
  refine F.ok sc_NoBase_init (fun vs H Q E h => ?_) (fun cdv A outer s H vs Q E hr h => ?_)
  · obtain ⟨a, y, rfl, _⟩ := h
    rfl
  · obtain ⟨a, y, rfl, ha, q⟩ := h
    refine ⟨_, (pss_one (ps_ost (pv 0) (pv 1))), ?_⟩
    exact ⟨y, rfl, .ref a, rfl, a, C, rfl, N.T, N.no, .inl ⟨ha, q⟩⟩
/-- the fields that a base has -/
def FdsOf (ks : List KRow) (fs : List FRow) (z : Str) (fds : List Fld) : Prop :=
  (∃ k ∈ ks, k.nm = z ∧ fds = k.fds) ∨ (z ∉ ks.map (·.nm) ∧ ∃ f ∈ fs, f.nm = z ∧ fds = f.fds) ∨ (z ∉ ks.map (·.nm) ∧ z ∉ fs.map (·.nm) ∧ fds = [])
def spShapes (K : PySem.W.Frag) (C CN : Addr) : Sp := fun vs H Q E => ∃ (x : Addr) (y : V) (ks : List KRow) (fs : List FRow) (us : List URow) (root : Str), vs = [.ref x, y] ∧ BuiltAt C H x ks fs us root ∧ SchOk ks fs us root ∧
  ((∃ z, y = .str z ∧ z ∈ bsOf ks fs us ∧ ∀ (fds : List Fld) p H', FdsOf ks fs z fds → (∀ f ∈ fds, ShAt H' f.2.1 f.2.2) → Same H H' → H p = none → H' p = some (.dK (fkv fds)) → Q (.ref p) H') ∨
    (((∃ z, y = .str z ∧ z ∉ bsOf ks fs us) ∨ ∃ t, TyX K H y t ∧ PySem.W.kitOne K t (.type "str") = some false) ∧ ∀ d H', Same H H' → H d = none → H' d = some (.xd [("base", y)]) → E (.ref CN) (some d) H'))
theorem ok_shapes_at {f f1 f2 C CN : Addr} {fd fd1 fd2 : FuncData} (F : Fun K "shapes_at" "Schema.shapes_at" s_Schema_shapes_at f fd) (mC : InM K C f1) (bC : Binds K fd1 ["self", "base"] []) (G_contains : FnOk P w K mg base CX0 2 f1 fd1 ["self", "base"] (spContains K C))
    (NN : NoB K mg CN f2) (bN : Binds K fd2 ["self", "base"] []) (G_NB : FnOk P w K mg base CX0 1 f2 fd2 ["self", "base"] (spNB CN)) (T : Nms mg) (L : ClT K C) : FnOk P w K mg base (L2N.CX P w) 4 f fd ["self", "base"] (spShapes K C CN) := by
  have TN := NN.T
  have iC := NN.iC
  have tI := NN.tI
  have gN := NN.g
  refine okC F sc_Schema_shapes_at (fun vs H Q E h => ?_) (fun cdv A outer s H vs Q E hr h => ?_)
  · obtain ⟨x, y, ks, fs, us, root, rfl, _⟩ := h
    rfl
  · obtain ⟨x, y, ks, fs, us, root, rfl, Bt, ok, q⟩ := h
    have hu := hu_of hr
    refine ⟨_, (pss_cons (ps_if (pt_cmpR (op_notIn_own mC G_contains (hr.mono (by decide)) bC .nil pass0) (pv 1) (pv 0) (by rfl))
       (pss_one (L2N.ps_raise rfl (L2N.takes_of rfl rfl rfl rfl) (pmkN TN iC tI G_NB (hr.mono (by decide)) bN pass0 (by rfl) gN (pa_cons (pv 1) pa_nil))))
       pss_nil)
      (PSs.nox (pss_cons (ps_if (pt_cmp (pc_din hu (pv 1) (pe_fld (pv 0) rfl)) rfl)
       (pss_one (ps_ret (pe_callTy call_dictD (by rfl) T.n_dict (by decide +kernel) (pa_cons (pe_ix ix_tup (pe_dget hu (pe_fld (pv 0) rfl) (pv 1) (fun _ _ => rfl)) pe_int (fun _ _ => rfl)) pa_nil))))
       pss_nil)
      (pss_cons (ps_if (pt_cmp (pc_din hu (pv 1) (pe_fld (pv 0) rfl)) rfl)
       (pss_one (ps_ret (pe_callTy call_dictD (by rfl) T.n_dict (by decide +kernel) (pa_cons (pe_dget hu (pe_fld (pv 0) rfl) (pv 1) (fun _ _ => rfl)) pa_nil))))
       pss_nil)
      (pss_one (ps_ret pe_dnewK)))))), ?_⟩
    have k1 := ok.k1
    have f1' := ok.f1
    have u1 := ok.u1
    have Bt' := Bt
    obtain ⟨dx0, kt, ft, ut, ks', fs', us', hx, S, rk, rf, ru⟩ := Bt'
    obtain ⟨e1, e2, e3⟩ := Bt.names ks' fs' us' rk rf ru
    have bad : ∀ H1, Same H H1 → (∀ d H', Same H H' → H d = none → H' d = some (.xd [("base", y)]) → E (.ref CN) (some d) H') → ∀ a, H1 a = none → spNB CN ([.ref a, y]) (upd H1 a (exo a CN none)) (fun v H2 => v = .non ∧ ∃ (d : Addr) (fs : List (Str × V)), H2 a = some (exo a CN (some d)) ∧ H2 d = some (exd d fs) ∧ H1 d = none ∧ E (.ref CN) (some d) (upd (del H2 a) d (.xd fs))) E0 := by
      intro H1 s1 k a na
      refine ⟨a, y, rfl, upd_same, fun d nd nda => ⟨rfl, d, [("base", y)], upd_same, by rw [upd_ne nda, upd_same], ?_, ?_⟩⟩
      · rw [upd_ne nda] at nd
        exact nd
      · rw [upd_ne nda] at nd
        refine k d _ (fun b o e => ?_) (s1.free nd) upd_same
        have eb := s1 _ _ e
        have nbd : b ≠ d := ne_of_none eb nd
        have nba : b ≠ a := ne_of_none eb na
        rw [upd_ne nbd, del_ne nba, upd_ne nba, upd_ne nbd, upd_ne nba]
        exact eb
    rcases q with ⟨z, rfl, hz, q⟩ | ⟨hbad, q⟩
    · refine ⟨.str z, rfl, .ref x, rfl, x, dx0, _, rfl, hx, x, .str z, ks, fs, us, root, rfl, Bt, k1, f1', u1, .inl ⟨z, rfl, fun H1 s1 => ⟨_, rfl, _, rfl, ?_⟩⟩⟩
      rw [decide_eq_true hz]
      refine iteF ?_
      have hx1 := s1 _ _ hx
      have S1 := S.same s1
      refine ⟨.str z, rfl, .ref x, rfl, x, C, dx0, _, _, rfl, hx1, L.cl, L.nk, lkk .., kt, _, rfl, .inl ⟨kkv ks', .inr z, .inl S1.kd, rfl, rfl⟩, _, rfl, ?_⟩
      have ndk : (ks'.map (·.nm)).Nodup := by rw [e1]; exact ok.ndk
      have ndf : (fs'.map (·.nm)).Nodup := by rw [e2]; exact ok.ndf
      by_cases hk : z ∈ ks.map (·.nm)
      · obtain ⟨k', km', en⟩ := List.mem_map.mp (show z ∈ ks'.map (·.nm) by rw [e1]; exact hk)
        subst en
        rw [kkv_val ndk km']
        obtain ⟨i, hi, ei⟩ := List.getElem_of_mem km'
        have hi2 : i < ks.length := by rw [← rk.1]; exact hi
        obtain ⟨r1, r2, r3, r4⟩ := rk.2 i ks[i] k' (List.getElem?_eq_getElem hi2) (by rw [← ei]; exact List.getElem?_eq_getElem hi)
        have hr' := S1.ka k' km'
        refine iteT ⟨.ref x, rfl, x, C, dx0, _, _, rfl, hx1, L.cl, L.nk, lkk .., .str k'.nm, rfl, kt, _, rfl, .inl ⟨kkv ks', .inr k'.nm, .inl S1.kd, rfl, (kkv_val ndk km').symm⟩, k'.t, _, 1, _, rfl, rfl, .inl (.inl hr'.t), atI_nat (j := 1) rfl, k'.da, _, rfl, .inl hr'.d.at_, fun p np => q k'.fds p _ (.inl ⟨ks[i], List.getElem_mem hi2, r1.symm, r4⟩) (fun f m => (hr'.d.sh f m).same (same_new np)) (s1.trans (same_new np)) (s1.free np) upd_same⟩
      · have e0 : valV (kkv ks') (Sum.inr z) = none := valV_out (f := fun k : KRow => k.nm) (g := fun k => V.ref k.t) (by rw [e1]; exact hk)
        rw [e0]
        refine iteF ⟨.str z, rfl, .ref x, rfl, x, C, dx0, _, _, rfl, hx1, L.cl, L.nf, lkf .., ft, _, rfl, .inl ⟨fkvs fs', .inr z, .inl S1.fd, rfl, rfl⟩, _, rfl, ?_⟩
        by_cases hf : z ∈ fs.map (·.nm)
        · obtain ⟨f', fm', en⟩ := List.mem_map.mp (show z ∈ fs'.map (·.nm) by rw [e2]; exact hf)
          subst en
          rw [fkvs_val ndf fm']
          obtain ⟨i, hi, ei⟩ := List.getElem_of_mem fm'
          have hi2 : i < fs.length := by rw [← rf.1]; exact hi
          obtain ⟨r1, r2⟩ := rf.2 i fs[i] f' (List.getElem?_eq_getElem hi2) (by rw [← ei]; exact List.getElem?_eq_getElem hi)
          have hr' := S1.fa f' fm'
          refine iteT ⟨.ref x, rfl, x, C, dx0, _, _, rfl, hx1, L.cl, L.nf, lkf .., .str f'.nm, rfl, ft, _, rfl, .inl ⟨fkvs fs', .inr f'.nm, .inl S1.fd, rfl, (fkvs_val ndf fm').symm⟩, f'.da, _, rfl, .inl hr'.at_, fun p np => q f'.fds p _ (.inr (.inl ⟨hk, fs[i], List.getElem_mem hi2, r1.symm, r2⟩)) (fun f m => (hr'.sh f m).same (same_new np)) (s1.trans (same_new np)) (s1.free np) upd_same⟩
        · have e0' : valV (fkvs fs') (Sum.inr z) = none := valV_out (f := fun k : FRow => k.nm) (g := fun k => V.ref k.da) (by rw [e2]; exact hf)
          rw [e0']
          exact iteF fun p np => q [] p _ (.inr (.inr ⟨hk, hf, rfl⟩)) (fun _ m => nomatch m) (s1.trans (same_new np)) (s1.free np) upd_same
    · rcases hbad with ⟨z, rfl, hz⟩ | ⟨t, ht, hkt⟩
      · refine ⟨.str z, rfl, .ref x, rfl, x, dx0, _, rfl, hx, x, .str z, ks, fs, us, root, rfl, Bt, k1, f1', u1, .inl ⟨z, rfl, fun H1 s1 => ⟨_, rfl, _, rfl, ?_⟩⟩⟩
        rw [decide_eq_false hz]
        exact iteT ⟨.str z, rfl, by show 1 ≤ 1000; decide, bad H1 s1 q⟩
      · exact ⟨y, rfl, .ref x, rfl, x, dx0, _, rfl, hx, x, y, ks, fs, us, root, rfl, Bt, k1, f1', u1, .inr ⟨t, ht, hkt, fun H1 s1 => ⟨_, rfl, _, rfl, iteT ⟨y, rfl, by show 1 ≤ 1000; decide, bad H1 s1 q⟩⟩⟩⟩
end
end NW
namespace NW
open PySem PySem.Spec PyProof.Rows L2
open TL (tl)
open StX (pa_star)
abbrev s_Schema_fields : Stmt := inClass (topS 35) 9
abbrev N_Schema_fields : List Str := ["self", "base"]
theorem sc_Schema_fields : FnScope N_Schema_fields ["self", "base"] (defScope s_Schema_fields) := ⟨rfl, rfl, rfl, by decide +kernel, rfl, by decide +kernel, by decide +kernel⟩section
variable {P : Program} {w : World} {K : PySem.W.Frag} {mg : Str → Option Value} {base : Heap}

theorem FdsOf.few {ks : List KRow} {fs : List FRow} {us : List URow} {root z : Str} {fds : List Fld} (ok : SchOk ks fs us root) (h : FdsOf ks fs z fds) : fds.length ≤ 5 := by
  rcases h with ⟨k, m, _, rfl⟩ | ⟨_, f, m, _, rfl⟩ | ⟨_, _, rfl⟩
  · exact (ok.kd k m).n1
  · exact Nat.le_trans (ok.fd f m).n1 (by decide)
  · exact Nat.zero_le _
def spFields (K : PySem.W.Frag) (C CN : Addr) : Sp := fun vs H Q E => ∃ (x : Addr) (y : V) (ks : List KRow) (fs : List FRow) (us : List URow) (root : Str), vs = [.ref x, y] ∧ BuiltAt C H x ks fs us root ∧ SchOk ks fs us root ∧
  ((∃ z, y = .str z ∧ z ∈ bsOf ks fs us ∧ ∀ (fds : List Fld) (l : List Str) p H', FdsOf ks fs z fds → l.Perm (fds.map (·.1)) → sortedS l = true → Same H H' → H p = none → H' p = some (.lst (l.map V.str)) → Q (.ref p) H') ∨
    (((∃ z, y = .str z ∧ z ∉ bsOf ks fs us) ∨ ∃ t, TyX K H y t ∧ PySem.W.kitOne K t (.type "str") = some false) ∧ ∀ d H', Same H H' → H d = none → H' d = some (.xd [("base", y)]) → E (.ref CN) (some d) H'))
theorem ok_fields {f f1 C CN : Addr} {fd fd1 : FuncData} (F : Fun K "fields" "Schema.fields" s_Schema_fields f fd) (M : Mt K C "shapes_at" "Schema.shapes_at" s_Schema_shapes_at f1 fd1 ["self", "base"]) (G_shapes_at : FnOk P w K mg base (L2N.CX P w) 4 f1 fd1 ["self", "base"] (spShapes K C CN))
    (T : Nms mg) (L : ClT K C) : FnOk P w K mg base (L2N.CX P w) 5 f fd ["self", "base"] (spFields K C CN) := by
  refine okC F sc_Schema_fields (fun vs H Q E h => ?_) (fun cdv A outer s H vs Q E hr h => ?_)
  · obtain ⟨x, y, ks, fs, us, root, rfl, _⟩ := h
    rfl
  · obtain ⟨x, y, ks, fs, us, root, rfl, Bt, ok, q⟩ := h
    refine ⟨_, (pss_one (ps_ret (pe_callB (call_sortedD rfl) (by rfl) T.n_sorted (by decide +kernel) (pa_cons (pe_methX (pv 0) L.cl M.m G_shapes_at (hr.mono (by decide)) M.b (fun σ => L2N.passAt (L2N.takes_of rfl rfl rfl rfl) σ) (pa_cons (pv 1) pa_nil)) pa_nil)))), ?_⟩
    have Bt' := Bt
    obtain ⟨dx0, kt, ft, ut, ks', fs', us', hx, _⟩ := Bt'
    refine ⟨.ref x, rfl, x, dx0, _, rfl, hx, lkn _ _ _ _ (by decide +kernel) (by decide +kernel) (by decide +kernel) (by decide +kernel), y, rfl, x, y, ks, fs, us, root, rfl, Bt, ok, ?_⟩
    rcases q with ⟨z, rfl, hz, q⟩ | ⟨hbad, q⟩
    · refine .inl ⟨z, rfl, hz, fun fds p1 H1 hf _ s1 n1 e1 => ⟨p1, fkv fds, _, rfl, .inl e1, fkv_keys fds, ?_, fun ys p pm so np => q fds ys p _ hf pm so (s1.trans (same_new np)) (s1.free np) upd_same⟩⟩
      rw [List.length_map]
      exact Nat.lt_of_le_of_lt (hf.few ok) (by decide)
    · exact .inr ⟨hbad, q⟩
end
end NW
namespace NW
open PySem PySem.Spec PyProof.Rows L2
open TL (tl)
open StX (pa_star)
abbrev s_Schema_shape_of : Stmt := inClass (topS 35) 10
abbrev N_Schema_shape_of : List Str := ["self", "base", "field", "shapes"]
theorem sc_Schema_shape_of : FnScope N_Schema_shape_of ["self", "base", "field"] (defScope s_Schema_shape_of) := ⟨rfl, rfl, rfl, by decide +kernel, rfl, by decide +kernel, by decide +kernel⟩
abbrev s_NoField_init : Stmt := inClass (topS 5) 0
abbrev N_NoField_init : List Str := ["self", "base", "field"]
theorem sc_NoField_init : FnScope N_NoField_init ["self", "base", "field"] (defScope s_NoField_init) := ⟨rfl, rfl, rfl, by decide +kernel, rfl, by decide +kernel, by decide +kernel⟩
structure NoF (K : PySem.W.Frag) (mg : Str → Option Value) (C fI : Addr) : Prop where
  T : OexC K C
  iC : PySem.W.findIn K (.ref C) "__init__" = some (some (.ref fI))
  tI : PySem.W.typeIn K (.ref fI) = some (.type "function")
  g : mg "NoField" = some (.ref C)
  nb : PySem.W.findIn K (.ref C) "base" = some none
  nf : PySem.W.findIn K (.ref C) "field" = some none
section
variable {P : Program} {w : World} {K : PySem.W.Frag} {mg : Str → Option Value} {base : Heap}

def spNF (C : Addr) : Sp := fun vs H Q _ => ∃ (a : Addr) (y u : V), vs = [.ref a, y, u] ∧ H a = some (exo a C none) ∧ ∀ dx H', H dx = none → dx ≠ a → H' a = some (exo a C (some dx)) → H' dx = some (exd dx [("field", u), ("base", y)]) → (∀ b, b ≠ a → b ≠ dx → H' b = H b) → Q .non H'
theorem ok_NF {f C : Addr} {fd : FuncData} (F : Fun K "__init__" "NoField.__init__" s_NoField_init f fd) (N : NoF K mg C f) : FnOk P w K mg base CX0 1 f fd ["self", "base", "field"] (spNF C) := by
  refine F.ok sc_NoField_init (fun vs H Q E h => ?_) (fun cdv A outer s H vs Q E hr h => ?_)
  · obtain ⟨a, y, u, rfl, _⟩ := h
    rfl
  · obtain ⟨a, y, u, rfl, ha, q⟩ := h
    refine ⟨_, (pss_cons (ps_ost (pv 0) (pv 1))
      (pss_one (ps_ost (pv 0) (pv 2)))), ?_⟩
    refine ⟨y, rfl, .ref a, rfl, a, C, rfl, N.T, N.nb, .inl ⟨ha, fun dx nd nda => ?_⟩⟩
    refine ⟨u, rfl, .ref a, rfl, a, C, rfl, N.T, N.nf, .inr ⟨dx, [("base", y)], upd_same, by rw [upd_ne nda]; exact upd_same, by show 1 ≤ 900; decide, ?_⟩⟩
    refine q dx _ nd nda ?_ ?_ ?_
    · rw [upd_ne (Ne.symm nda)]
      exact upd_same
    · exact upd_same
    · intro b h1 h2
      rw [upd_ne h2, upd_ne h1, upd_ne h2]
/-- a field's shape; what it may let out: no base, or no field of the base -/
def spShapeOf (K : PySem.W.Frag) (C CN CF : Addr) : Sp := fun vs H Q E => ∃ (x : Addr) (y u : V) (ks : List KRow) (fs : List FRow) (us : List URow) (root : Str), vs = [.ref x, y, u] ∧ BuiltAt C H x ks fs us root ∧ SchOk ks fs us root ∧
  ((∃ z, y = .str z ∧ z ∈ bsOf ks fs us ∧ ∀ (fds : List Fld), FdsOf ks fs z fds →
      ((∃ g, u = .str g ∧ ((∃ fl ∈ fds, fl.1 = g ∧ ∀ H', Same H H' → ShAt H' fl.2.1 fl.2.2 → Q fl.2.1 H') ∨ (g ∉ fds.map (·.1) ∧ ∀ d H', Same H H' → H d = none → H' d = some (.xd [("field", u), ("base", y)]) → E (.ref CF) (some d) H'))) ∨
        ((∃ t, (∀ H', Same H H' → TyX K H' u t) ∧ PySem.W.kitOne K t (.type "str") = some false) ∧ ∀ d H', Same H H' → H d = none → H' d = some (.xd [("field", u), ("base", y)]) → E (.ref CF) (some d) H'))) ∨
    (((∃ z, y = .str z ∧ z ∉ bsOf ks fs us) ∨ ∃ t, TyX K H y t ∧ PySem.W.kitOne K t (.type "str") = some false) ∧ ∀ d H', Same H H' → H d = none → H' d = some (.xd [("base", y)]) → E (.ref CN) (some d) H'))
theorem FdsOf.nd {ks : List KRow} {fs : List FRow} {us : List URow} {root z : Str} {fds : List Fld} (ok : SchOk ks fs us root) (h : FdsOf ks fs z fds) : (fds.map (·.1)).Nodup := by
  rcases h with ⟨k, m, _, rfl⟩ | ⟨_, f, m, _, rfl⟩ | ⟨_, _, rfl⟩
  · exact (ok.kd k m).nd
  · exact (ok.fd f m).nd
  · exact List.nodup_nil
theorem ok_shape_of {f f1 f2 f3 C CN CF : Addr} {fd fd1 fd2 fd3 : FuncData} (F : Fun K "shape_of" "Schema.shape_of" s_Schema_shape_of f fd) (M : Mt K C "shapes_at" "Schema.shapes_at" s_Schema_shapes_at f1 fd1 ["self", "base"]) (G_shapes_at : FnOk P w K mg base (L2N.CX P w) 4 f1 fd1 ["self", "base"] (spShapes K C CN))
    (D_is_key : Df K mg "is_key" s_is_key f2 fd2 ["name", "table"]) (G_is_key : FnOk P w K mg base CX0 1 f2 fd2 ["name", "table"] (spIsKey K)) (NF : NoF K mg CF f3) (bF : Binds K fd3 ["self", "base", "field"] []) (G_NF : FnOk P w K mg base CX0 1 f3 fd3 ["self", "base", "field"] (spNF CF))
    (T : Nms mg) (L : ClT K C) : FnOk P w K mg base (L2N.CX P w) 5 f fd ["self", "base", "field"] (spShapeOf K C CN CF) := by
  refine okC F sc_Schema_shape_of (fun vs H Q E h => ?_) (fun cdv A outer s H vs Q E hr h => ?_)
  · obtain ⟨x, y, u, ks, fs, us, root, rfl, _⟩ := h
    rfl
  · obtain ⟨x, y, u, ks, fs, us, root, rfl, Bt, ok, q⟩ := h
    have hu := hu_of hr
    refine ⟨_, (pss_cons (ps_set (i := 3) sc_Schema_shape_of.nd rfl (.inl rfl) (pe_methX (pv 0) L.cl M.m G_shapes_at (hr.mono (by decide)) M.b (fun σ => L2N.passAt (L2N.takes_of rfl rfl rfl rfl) σ) (pa_cons (pv 1) pa_nil)))
      (pss_cons (ps_if (pt_not (pt_val (pe_call G_is_key (hr.mono (by decide)) (by rfl) D_is_key.g D_is_key.F.kp D_is_key.b .nil pass0 (pa_cons (pv 2) (pa_cons (pv 3) pa_nil)))))
       (pss_one (L2N.ps_raise rfl (L2N.takes_of rfl rfl rfl rfl) (pmkN NF.T NF.iC NF.tI G_NF (hr.mono (by decide)) bF pass0 (by rfl) NF.g (pa_cons (pv 1) (pa_cons (pv 2) pa_nil)))))
       pss_nil)
      (pss_one (ps_ret (pe_dget hu (pv 3) (pv 2) (fun _ _ => rfl)))))), ?_⟩
    have Bt' := Bt
    obtain ⟨dx0, kt, ft, ut, ks', fs', us', hx, _⟩ := Bt'
    refine ⟨.ref x, rfl, x, dx0, _, rfl, hx, lkn _ _ _ _ (by decide +kernel) (by decide +kernel) (by decide +kernel) (by decide +kernel), y, rfl, x, y, ks, fs, us, root, rfl, Bt, ok, ?_⟩
    rcases q with ⟨z, rfl, hz, q⟩ | ⟨hbad, q⟩
    · refine .inl ⟨z, rfl, hz, fun fds p1 H1 hf hsh s1 n1 e1 => ?_⟩
      have bad : (∀ d H', Same H H' → H d = none → H' d = some (.xd [("field", u), ("base", .str z)]) → E (.ref CF) (some d) H') → ∀ a, H1 a = none → spNF CF ([.ref a, .str z, u]) (upd H1 a (exo a CF none)) (fun v H2 => v = .non ∧ ∃ (d : Addr) (fs : List (Str × V)), H2 a = some (exo a CF (some d)) ∧ H2 d = some (exd d fs) ∧ H1 d = none ∧ E (.ref CF) (some d) (upd (del H2 a) d (.xd fs))) E0 := by
        intro k a na
        refine ⟨a, .str z, u, rfl, upd_same, fun d H2 nd nda ha hd rest => ⟨rfl, d, _, ha, hd, ?_, ?_⟩⟩
        · rw [upd_ne nda] at nd
          exact nd
        · rw [upd_ne nda] at nd
          refine k d _ (fun b o e => ?_) (s1.free nd) upd_same
          have eb := s1 _ _ e
          have nbd : b ≠ d := ne_of_none eb nd
          have nba : b ≠ a := ne_of_none eb na
          rw [upd_ne nbd, del_ne nba, rest b nba nbd, upd_ne nba]
          exact eb
      rcases q fds hf with ⟨g, rfl, ⟨fl, fm, rfl, q1⟩ | ⟨ng, q2⟩⟩ | ⟨⟨t, ht, hk⟩, q3⟩
      · have hv : valV (fkv fds) (Sum.inr fl.1) = some fl.2.1 := valV_map (f := fun f : Fld => f.1) (g := fun f => f.2.1) (hf.nd ok) fm
        refine ⟨.str fl.1, rfl, .ref p1, rfl, .str fl.1, p1, rfl, .inl ⟨fl.1, rfl, .inr ⟨fkv fds, .inl e1, ?_⟩⟩⟩
        rw [hv]
        exact ⟨true, rfl, iteF ⟨.ref p1, rfl, .str fl.1, rfl, p1, _, rfl, .inl ⟨fkv fds, .inr fl.1, .inl e1, rfl, hv.symm⟩, q1 H1 s1 (hsh fl fm)⟩⟩
      · have hv : valV (fkv fds) (Sum.inr g) = none := valV_out (f := fun f : Fld => f.1) (g := fun f => f.2.1) ng
        refine ⟨.str g, rfl, .ref p1, rfl, .str g, p1, rfl, .inl ⟨g, rfl, .inr ⟨fkv fds, .inl e1, ?_⟩⟩⟩
        rw [hv]
        exact ⟨false, rfl, iteT ⟨.str z, rfl, .str g, rfl, by show 2 ≤ 1000; decide, bad q2⟩⟩
      · exact ⟨u, rfl, .ref p1, rfl, u, p1, rfl, .inr ⟨t, ht H1 s1, hk, false, rfl, iteT ⟨.str z, rfl, u, rfl, by show 2 ≤ 1000; decide, bad q3⟩⟩⟩
    · exact .inr ⟨hbad, q⟩
end
end NW
namespace NW
open PySem PySem.Spec PyProof.Rows L2
open TL (tl)
open StX (pa_star)
abbrev s_Ltable : Stmt := topS 56
abbrev N_Ltable : List Str := ["_law_schema_here", "_law_base"]
theorem sc_Ltable : FnScope N_Ltable ["_law_schema_here", "_law_base"] (defScope s_Ltable) := ⟨rfl, rfl, rfl, by decide +kernel, rfl, by decide +kernel, by decide +kernel⟩
section
variable {P : Program} {w : World} {K : PySem.W.Frag} {mg : Str → Option Value} {base : Heap}

def spLtable : Sp := fun vs H Q _ => ∃ (q kt ft ut : Addr) (ks : List KRow) (fs : List FRow) (us : List URow) (root z : Str), vs = [.ref q, .str z] ∧ SchT H q kt ft ut ks fs us root ∧
  ∀ (fds : List Fld) d H', FdsOf ks fs z fds → (∀ f ∈ fds, ShAt H' f.2.1 f.2.2) → Same H H' → H' d = some (.dK (fkv fds)) → Q (.ref d) H'
theorem ok_Ltable {f : Addr} {fd : FuncData} (D : Df K mg "_law_table" s_Ltable f fd ["_law_schema_here", "_law_base"]) (T : Nms mg) : FnOk P w K mg base CX0 1 f fd ["_law_schema_here", "_law_base"] spLtable := by
  refine D.F.ok sc_Ltable (fun vs H Q E h => ?_) (fun cdv A outer s H vs Q E hr h => ?_)
  · obtain ⟨q, kt, ft, ut, ks, fs, us, root, z, rfl, _⟩ := h
    rfl
  · obtain ⟨q, kt, ft, ut, ks, fs, us, root, z, rfl, ⟨hq, S, ok⟩, k⟩ := h
    have hu := hu_of hr
    refine ⟨_, (pss_cons (ps_if (pt_cmp (pc_din hu (pv 1) (pe_ix ix_tup (pv 0) pe_int (fun _ _ => rfl))) rfl)
       (pss_one (ps_ret (pe_ix ix_tup (pe_dget hu (pe_ix ix_tup (pv 0) pe_int (fun _ _ => rfl)) (pv 1) (fun _ _ => rfl)) pe_int (fun _ _ => rfl))))
       pss_nil)
      (pss_cons (ps_if (pt_cmp (pc_din hu (pv 1) (pe_ix ix_tup (pv 0) pe_int (fun _ _ => rfl))) rfl)
       (pss_one (ps_ret (pe_dget hu (pe_ix ix_tup (pv 0) pe_int (fun _ _ => rfl)) (pv 1) (fun _ _ => rfl))))
       pss_nil)
      (pss_one (ps_ret pe_dnewK)))), ?_⟩
    have hT : SqT K H q [.ref kt, .ref ft, .ref ut, .str root] := .inl (.inl hq)
    refine ⟨.str z, rfl, .ref q, rfl, q, _, 0, _, rfl, rfl, hT, atI_nat (j := 0) rfl, kt, _, rfl, .inl ⟨kkv ks, .inr z, .inl S.kd, rfl, rfl⟩, _, rfl, ?_⟩
    by_cases hk : z ∈ ks.map (·.nm)
    · obtain ⟨r, rm, rfl⟩ := List.mem_map.mp hk
      rw [kkv_val ok.ndk rm]
      have hr' := S.ka r rm
      exact iteT ⟨.ref q, rfl, q, _, 0, _, rfl, rfl, hT, atI_nat (j := 0) rfl, .str r.nm, rfl, kt, _, rfl, .inl ⟨kkv ks, .inr r.nm, .inl S.kd, rfl, (kkv_val ok.ndk rm).symm⟩, r.t, _, 1, _, rfl, rfl, .inl (.inl hr'.t), atI_nat (j := 1) rfl, k r.fds r.da H (.inl ⟨r, rm, rfl, rfl⟩) (fun f m => hr'.d.sh f m) (Same.refl _) hr'.d.at_⟩
    · have e0 : valV (kkv ks) (Sum.inr z) = none := valV_out (f := fun k : KRow => k.nm) (g := fun k => V.ref k.t) hk
      rw [e0]
      refine iteF ⟨.str z, rfl, .ref q, rfl, q, _, 1, _, rfl, rfl, hT, atI_nat (j := 1) rfl, ft, _, rfl, .inl ⟨fkvs fs, .inr z, .inl S.fd, rfl, rfl⟩, _, rfl, ?_⟩
      by_cases hf : z ∈ fs.map (·.nm)
      · obtain ⟨r, rm, rfl⟩ := List.mem_map.mp hf
        rw [fkvs_val ok.ndf rm]
        have hr' := S.fa r rm
        exact iteT ⟨.ref q, rfl, q, _, 1, _, rfl, rfl, hT, atI_nat (j := 1) rfl, .str r.nm, rfl, ft, _, rfl, .inl ⟨fkvs fs, .inr r.nm, .inl S.fd, rfl, (fkvs_val ok.ndf rm).symm⟩, k r.fds r.da H (.inr (.inl ⟨hk, r, rm, rfl, rfl⟩)) (fun f m => hr'.sh f m) (Same.refl _) hr'.at_⟩
      · have e1 : valV (fkvs fs) (Sum.inr z) = none := valV_out (f := fun k : FRow => k.nm) (g := fun k => V.ref k.da) hf
        rw [e1]
        exact iteF fun p np => k [] p _ (.inr (.inr ⟨hk, hf, rfl⟩)) (fun _ m => nomatch m) (same_new np) upd_same
end
end NW
namespace NW
open PySem PySem.Spec PyProof.Rows L2
open TL (tl)
open StX (pa_star)
abbrev s_Lmembers : Stmt := topS 55
abbrev N_Lmembers : List Str := ["_law_schema_here", "_law_base", "_law_kind_here"]
theorem sc_Lmembers : FnScope N_Lmembers ["_law_schema_here", "_law_base"] (defScope s_Lmembers) := ⟨rfl, rfl, rfl, by decide +kernel, rfl, by decide +kernel, by decide +kernel⟩
abbrev s_Schema_members : Stmt := inClass (topS 35) 7
abbrev N_Schema_members : List Str := ["self", "base", "kind"]
theorem sc_Schema_members : FnScope N_Schema_members ["self", "base"] (defScope s_Schema_members) := ⟨rfl, rfl, rfl, by decide +kernel, rfl, by decide +kernel, by decide +kernel⟩
theorem pe_fldK {X : Cx} (K : PySem.W.Frag) {e : Expr} {f : Str} {ta : TE} {pos : Pos} (he : PE X e ta) (hb : attributeBase e f X.env (eval e X.env) = eval e X.env) (h : X.K = K := by rfl) : PE X (.Attribute e f pos) (tFld K ta f) := h ▸ pe_fld he hb
section
variable {P : Program} {w : World} {K : PySem.W.Frag} {mg : Str → Option Value} {base : Heap}

def spLmembers : Sp := fun vs H Q _ => ∃ (q kt ft ut : Addr) (ks : List KRow) (fs : List FRow) (us : List URow) (root z : Str), vs = [.ref q, .str z] ∧ SchT H q kt ft ut ks fs us root ∧
  ∀ (l : List Str) p H', MemL ks us z l → Same H H' → H p = none → H' p = some (.lst (l.map V.str)) → Q (.ref p) H'
theorem ok_Lmembers {f : Addr} {fd : FuncData} (D : Df K mg "_law_members" s_Lmembers f fd ["_law_schema_here", "_law_base"]) (T : Nms mg) : FnOk P w K mg base CX0 1 f fd ["_law_schema_here", "_law_base"] spLmembers := by
  refine D.F.ok sc_Lmembers (fun vs H Q E h => ?_) (fun cdv A outer s H vs Q E hr h => ?_)
  · obtain ⟨q, kt, ft, ut, ks, fs, us, root, z, rfl, _⟩ := h
    rfl
  · obtain ⟨q, kt, ft, ut, ks, fs, us, root, z, rfl, ⟨hq, S, ok⟩, k⟩ := h
    have hu := hu_of hr
    refine ⟨_, (pss_cons (ps_if (pt_cmp (pc_din hu (pv 1) (pe_ix (ix_tupK K) (pv 0) pe_int (fun _ _ => rfl))) rfl)
       (pss_one (ps_ret (pe_lst (pa_cons (pv 1) pa_nil))))
       pss_nil)
      (pss_cons (ps_if (pt_cmp (pc_din hu (pv 1) (pe_ix (ix_tupK K) (pv 0) pe_int (fun _ _ => rfl))) rfl)
       (pss_one (ps_ret (pe_callB (call_sortedTup K) (by rfl) T.n_sorted (by decide +kernel) (pa_cons (pe_dget hu (pe_ix (ix_tupK K) (pv 0) pe_int (fun _ _ => rfl)) (pv 1) (fun _ _ => rfl)) pa_nil))))
       pss_nil)
      (pss_one (ps_ret (pe_callB cr_sortedS (by rfl) T.n_sorted (by decide +kernel) (pa_cons (pe_lock (pe_lc (own := [("_law_kind_here", 2)]) (g := (gName 2)) rfl sc_Lmembers.nd (pi_keys (pe_ix (ix_tupK K) (pv 0) pe_int (fun _ _ => rfl))) (blkOk_by (own := [("_law_kind_here", 2)]) (N := N_Lmembers) (sc := defScope s_Lmembers) (by decide +kernel)) (fun _ _ _ _ _ => (pg_name (i := 2) sc_Lmembers.nd rfl (.inl rfl))) (fun _ _ _ _ _ => pts_one (pt_cmpR (op_in_seqK K) (pv 1) (pe_ix (ix_tupK K) (pe_dget hu (pe_ix (ix_tupK K) (pv 0) pe_int (fun _ _ => rfl)) (pv 2) (fun _ _ => rfl)) pe_int (fun _ _ => rfl)) (by rfl))) (fun _ _ _ _ _ => (pv 2)))) pa_nil)))))), ?_⟩
    have k1 := ok.k1
    have u1 := ok.u1
    have hT : SqT K H q [.ref kt, .ref ft, .ref ut, .str root] := .inl (.inl hq)
    refine ⟨.str z, rfl, .ref q, rfl, q, _, 0, _, rfl, rfl, hT, atI_nat (j := 0) rfl, kt, _, rfl, .inl ⟨kkv ks, .inr z, .inl S.kd, rfl, rfl⟩, _, rfl, ?_⟩
    by_cases hk : z ∈ ks.map (·.nm)
    · rw [kkv_some ok.ndk hk]
      exact iteT ⟨.str z, rfl, by show 1 ≤ sizeLine; decide, fun p np => k [z] p _ ⟨rfl, by show 1 ≤ 6; decide, .inl ⟨hk, rfl⟩⟩ (same_new np) np upd_same⟩
    · have e0 : valV (kkv ks) (Sum.inr z) = none := valV_out (f := fun k : KRow => k.nm) (g := fun k => V.ref k.t) hk
      rw [e0]
      refine iteF ⟨.str z, rfl, .ref q, rfl, q, _, 2, _, rfl, rfl, hT, atI_nat (j := 2) rfl, ut, _, rfl, .inl ⟨ukv us, .inr z, .inl S.ud, rfl, rfl⟩, _, rfl, ?_⟩
      by_cases hu' : z ∈ us.map (·.nm)
      · obtain ⟨u, um, rfl⟩ := List.mem_map.mp hu'
        rw [ukv_val ok.ndu um]
        obtain ⟨_, _, n3, _⟩ := ok.ud u um
        refine iteT ⟨.ref q, rfl, q, _, 2, _, rfl, rfl, hT, atI_nat (j := 2) rfl, .str u.nm, rfl, ut, _, rfl, .inl ⟨ukv us, .inr u.nm, .inl S.ud, rfl, (ukv_val ok.ndu um).symm⟩, u.t, u.ms, rfl, .inl (.inl (S.ua u um)), by omega, fun ys p pm so np => k ys p _ ⟨so, by rw [pm.length_eq]; omega, .inr (.inl ⟨hk, u, um, rfl, pm⟩)⟩ (same_new np) np upd_same⟩
      · have e1 : valV (ukv us) (Sum.inr z) = none := valV_out (f := fun k : URow => k.nm) (g := fun k => V.ref k.t) hu'
        rw [e1]
        refine iteF ⟨kt, .dK (kkv ks), S.kd, trivial, fun od => ⟨.ref q, rfl, q, _, 0, _, rfl, rfl, .inl (.inl (by rw [upd_ne (ne_of hq S.kd (by intro z; cases z))]; exact hq)), atI_nat (j := 0) rfl, kt, od, rfl, .inl ⟨kkv ks, upd_same, fun Da nD => ?_⟩⟩⟩
        have hkl : (kkv ks).length = ks.length := List.length_map ..
        refine lc_it walk_keys (fun i H' => Same (upd H kt (.frz od (.dK (kkv ks)))) H' ∧ H' Da = some (.lst (((ks.take i).filter fun k => decide (z ∈ k.fcs)).map fun k => V.str k.nm))) ⟨same_new nD, upd_same⟩ (fun i H _ p => p.1 _ _ upd_same) ?_ ?_
        · rintro i x H2 H3 hi ⟨sm, e2⟩ ⟨rfl, kk, v, e, rfl⟩
          obtain ⟨r, er, rfl, rfl⟩ := kkv_at e
          have hm := List.mem_of_getElem? er
          have rk : Rd H3 kt (.dK (kkv ks)) := .inr ⟨od, sm _ _ upd_same⟩
          have hr' := S.ka r hm
          have hq3 : SqT K H3 q [.ref kt, .ref ft, .ref ut, .str root] := .inl (.inl (sm _ _ (by rw [upd_ne (ne_of hq S.kd (by intro z; cases z))]; exact hq)))
          have ht : SqT K H3 r.t [.ref r.fa, .ref r.da] := .inl (.inl (sm _ _ (by rw [upd_ne (ne_of hr'.t S.kd (by intro z; cases z))]; exact hr'.t)))
          have hfa : SqT K H3 r.fa (r.fcs.map V.str) := .inl (.inl (sm _ _ (by rw [upd_ne (ne_of hr'.f S.kd (by intro z; cases z))]; exact hr'.f)))
          have et : ks.take (i + 1) = ks.take i ++ [r] := by rw [List.take_add_one, er]; rfl
          refine ⟨rfl, .str z, rfl, .ref q, rfl, q, _, 0, _, rfl, rfl, hq3, atI_nat (j := 0) rfl, .str r.nm, rfl, kt, _, rfl, .inl ⟨kkv ks, .inr r.nm, rk, rfl, (kkv_val ok.ndk hm).symm⟩, r.t, _, 0, _, rfl, rfl, ht, atI_nat (j := 0) rfl, r.fa, _, rfl, .inr hfa, rfl, flat_map _, _, rfl, ?_⟩
          by_cases hin : z ∈ r.fcs
          · show if (if false = true then !inV (.str z) (r.fcs.map V.str) else inV (.str z) (r.fcs.map V.str)) = true then _ else _
            rw [if_neg (show ¬ (false = true) by decide), inV_strs, decide_eq_true hin, if_pos rfl]
            refine ⟨.str r.nm, rfl, _, e2, ?_, same_upd sm nD, ?_⟩
            · rw [List.length_map]
              have h1 := List.length_filter_le (fun k : KRow => decide (z ∈ k.fcs)) (ks.take i)
              have h2 := List.length_take_le i ks
              exact Nat.lt_of_le_of_lt (show _ ≤ 1000 by omega) (by decide)
            · rw [upd_same, et, List.filter_append, List.map_append]
              rw [List.filter_cons_of_pos (by simpa using hin)]
              rfl
          · show if (if false = true then !inV (.str z) (r.fcs.map V.str) else inV (.str z) (r.fcs.map V.str)) = true then _ else _
            rw [if_neg (show ¬ (false = true) by decide), inV_strs, decide_eq_false hin, if_neg (by decide)]
            refine ⟨sm, ?_⟩
            rw [et, List.filter_append, List.filter_cons_of_neg (by simpa using hin), List.filter_nil, List.append_nil]
            exact e2
        · rintro H2 ⟨sm, e2⟩
          rw [hkl, List.take_length] at e2
          refine ⟨sm _ _ upd_same, ?_⟩
          have nDk : Da ≠ kt := fun z => by rw [z, upd_same] at nD; cases nD
          have s2 : Same H (upd H2 kt (.dK (kkv ks))) := same_unlock S.kd sm
          have e3 : (upd H2 kt (.dK (kkv ks))) Da = some (.lst (((ks.filter fun k => decide (z ∈ k.fcs)).map (·.nm)).map V.str)) := by
            rw [upd_ne nDk, e2, List.map_map]
            rfl
          have hle := List.length_filter_le (fun k : KRow => decide (z ∈ k.fcs)) ks
          refine ⟨Da, _, rfl, SqL.of e3, by rw [List.length_map]; omega, fun ys p pm so np => k ys p _ ⟨so, ?_, .inr (.inr ⟨hk, hu', pm⟩)⟩ (s2.trans (same_new np)) (s2.free np) upd_same⟩
          rw [pm.length_eq, List.length_map]
          omega
def spMembers (K : PySem.W.Frag) (C CN : Addr) : Sp := fun vs H Q E => ∃ (x : Addr) (y : V) (ks : List KRow) (fs : List FRow) (us : List URow) (root : Str), vs = [.ref x, y] ∧ BuiltAt C H x ks fs us root ∧ SchOk ks fs us root ∧
  ((∃ z, y = .str z ∧ z ∈ bsOf ks fs us ∧ ∀ (l : List Str) p H', MemL ks us z l → Same H H' → H p = none → H' p = some (.lst (l.map V.str)) → Q (.ref p) H') ∨
    (((∃ z, y = .str z ∧ z ∉ bsOf ks fs us) ∨ ∃ t, TyX K H y t ∧ PySem.W.kitOne K t (.type "str") = some false) ∧ ∀ d H', Same H H' → H d = none → H' d = some (.xd [("base", y)]) → E (.ref CN) (some d) H'))
theorem ok_members {f f1 f2 C CN : Addr} {fd fd1 fd2 : FuncData} (F : Fun K "members" "Schema.members" s_Schema_members f fd) (mC : InM K C f1) (bC : Binds K fd1 ["self", "base"] []) (G_contains : FnOk P w K mg base CX0 2 f1 fd1 ["self", "base"] (spContains K C))
    (NN : NoB K mg CN f2) (bN : Binds K fd2 ["self", "base"] []) (G_NB : FnOk P w K mg base CX0 1 f2 fd2 ["self", "base"] (spNB CN)) (T : Nms mg) (L : ClT K C) : FnOk P w K mg base (L2N.CX P w) 4 f fd ["self", "base"] (spMembers K C CN) := by
  have TN := NN.T
  have iC := NN.iC
  have tI := NN.tI
  have gN := NN.g
  refine okC F sc_Schema_members (fun vs H Q E h => ?_) (fun cdv A outer s H vs Q E hr h => ?_)
  · obtain ⟨x, y, ks, fs, us, root, rfl, _⟩ := h
    rfl
  · obtain ⟨x, y, ks, fs, us, root, rfl, Bt, ok, q⟩ := h
    have hu := hu_of hr
    refine ⟨_, (pss_cons (ps_if (pt_cmpR (op_notIn_own mC G_contains (hr.mono (by decide)) bC .nil pass0) (pv 1) (pv 0) (by rfl))
       (pss_one (L2N.ps_raise rfl (L2N.takes_of rfl rfl rfl rfl) (pmkN TN iC tI G_NB (hr.mono (by decide)) bN pass0 (by rfl) gN (pa_cons (pv 1) pa_nil))))
       pss_nil)
      (PSs.nox (pss_cons (ps_if (pt_cmp (pc_din hu (pv 1) (pe_fld (pv 0) rfl)) rfl)
       (pss_one (ps_ret (pe_lst (pa_cons (pv 1) pa_nil))))
       pss_nil)
      (pss_cons (ps_if (pt_cmp (pc_din hu (pv 1) (pe_fld (pv 0) rfl)) rfl)
       (pss_one (ps_ret (pe_callTy call_list_of (by rfl) T.n_list (by decide +kernel) (pa_cons (pe_dget hu (pe_fld (pv 0) rfl) (pv 1) (fun _ _ => rfl)) pa_nil))))
       pss_nil)
      (pss_one (ps_ret (pe_callB cr_sortedS (by rfl) T.n_sorted (by decide +kernel) (pa_cons (pe_lock (pe_lc (own := [("kind", 2)]) (g := (gName 2)) rfl sc_Schema_members.nd (pi_keys (pe_fld (pv 0) rfl)) (blkOk_by (own := [("kind", 2)]) (N := N_Schema_members) (sc := defScope s_Schema_members) (by decide +kernel)) (fun _ _ _ _ _ => (pg_name (i := 2) sc_Schema_members.nd rfl (.inl rfl))) (fun _ _ _ _ _ => pts_one (pt_cmpR (op_in_seqK K) (pv 1) (pe_ix (ix_tupK K) (pe_dget hu (pe_fldK K (pv 0) rfl) (pv 2) (fun _ _ => rfl)) pe_int (fun _ _ => rfl)) (by rfl))) (fun _ _ _ _ _ => (pv 2)))) pa_nil)))))))), ?_⟩
    have k1 := ok.k1
    have f1' := ok.f1
    have u1 := ok.u1
    have Bt' := Bt
    obtain ⟨dx0, kt, ft, ut, ks', fs', us', hx, S, rk, rf, ru⟩ := Bt'
    obtain ⟨e1, e2, e3⟩ := Bt.names ks' fs' us' rk rf ru
    -- raise NoBase(base)
    have bad : ∀ H1, Same H H1 → (∀ d H', Same H H' → H d = none → H' d = some (.xd [("base", y)]) → E (.ref CN) (some d) H') → ∀ a, H1 a = none → spNB CN ([.ref a, y]) (upd H1 a (exo a CN none)) (fun v H2 => v = .non ∧ ∃ (d : Addr) (fs : List (Str × V)), H2 a = some (exo a CN (some d)) ∧ H2 d = some (exd d fs) ∧ H1 d = none ∧ E (.ref CN) (some d) (upd (del H2 a) d (.xd fs))) E0 := by
      intro H1 s1 k a na
      refine ⟨a, y, rfl, upd_same, fun d nd nda => ⟨rfl, d, [("base", y)], upd_same, by rw [upd_ne nda, upd_same], ?_, ?_⟩⟩
      · rw [upd_ne nda] at nd
        exact nd
      · rw [upd_ne nda] at nd
        refine k d _ (fun b o e => ?_) (s1.free nd) upd_same
        have eb := s1 _ _ e
        have nbd : b ≠ d := ne_of_none eb nd
        have nba : b ≠ a := ne_of_none eb na
        rw [upd_ne nbd, del_ne nba, upd_ne nba, upd_ne nbd, upd_ne nba]
        exact eb
    rcases q with ⟨z, rfl, hz, q⟩ | ⟨hbad, q⟩
    · refine ⟨.str z, rfl, .ref x, rfl, x, dx0, _, rfl, hx, x, .str z, ks, fs, us, root, rfl, Bt, k1, f1', u1, .inl ⟨z, rfl, fun H1 s1 => ⟨_, rfl, _, rfl, ?_⟩⟩⟩
      rw [decide_eq_true hz]
      refine iteF ?_
      have hx1 := s1 _ _ hx
      have S1 := S.same s1
      -- a kind
      refine ⟨.str z, rfl, .ref x, rfl, x, C, dx0, _, _, rfl, hx1, L.cl, L.nk, lkk .., kt, _, rfl, .inl ⟨kkv ks', .inr z, .inl S1.kd, rfl, rfl⟩, _, rfl, ?_⟩
      have ndk : (ks'.map (·.nm)).Nodup := by rw [e1]; exact ok.ndk
      have ndu : (us'.map (·.nm)).Nodup := by rw [e3]; exact ok.ndu
      by_cases hk : z ∈ ks.map (·.nm)
      · rw [kkv_some ndk (by rw [e1]; exact hk)]
        exact iteT ⟨.str z, rfl, by show 1 ≤ sizeLine; decide, fun p np => q [z] p _ ⟨rfl, by show 1 ≤ 6; decide, .inl ⟨hk, rfl⟩⟩ (s1.trans (same_new np)) (s1.free np) upd_same⟩
      · have e0 : valV (kkv ks') (Sum.inr z) = none := valV_out (f := fun k : KRow => k.nm) (g := fun k => V.ref k.t) (by rw [e1]; exact hk)
        rw [e0]
        refine iteF ⟨.str z, rfl, .ref x, rfl, x, C, dx0, _, _, rfl, hx1, L.cl, L.nu, lku .., ut, _, rfl, .inl ⟨ukv us', .inr z, .inl S1.ud, rfl, rfl⟩, _, rfl, ?_⟩
        by_cases hu' : z ∈ us.map (·.nm)
        · obtain ⟨u', um', en⟩ := List.mem_map.mp (show z ∈ us'.map (·.nm) by rw [e3]; exact hu')
          subst en
          rw [ukv_val ndu um']
          obtain ⟨i, hi, ei⟩ := List.getElem_of_mem um'
          have hi2 : i < us.length := by rw [← ru.1]; exact hi
          obtain ⟨r1, r2, r3⟩ := ru.2 i us[i] u' (List.getElem?_eq_getElem hi2) (by rw [← ei]; exact List.getElem?_eq_getElem hi)
          have um : us[i] ∈ us := List.getElem_mem hi2
          obtain ⟨_, _, n3, _⟩ := ok.ud _ um
          refine iteT ⟨.ref x, rfl, x, C, dx0, _, _, rfl, hx1, L.cl, L.nu, lku .., .str u'.nm, rfl, ut, _, rfl, .inl ⟨ukv us', .inr u'.nm, .inl S1.ud, rfl, (ukv_val ndu um').symm⟩, u'.t, _, rfl, .inr (.inl (.inl (S1.ua u' um'))), fun p np => q u'.ms p _ ⟨r3, by rw [r2.length_eq]; omega, .inr (.inl ⟨hk, us[i], um, r1.symm, r2⟩)⟩ (s1.trans (same_new np)) (s1.free np) upd_same⟩
        · have e1' : valV (ukv us') (Sum.inr z) = none := valV_out (f := fun k : URow => k.nm) (g := fun k => V.ref k.t) (by rw [e3]; exact hu')
          rw [e1']
          refine iteF ⟨kt, .dK (kkv ks'), S1.kd, trivial, fun od => ⟨.ref x, rfl, x, C, dx0, _, _, rfl, by rw [upd_ne (ne_of hx1 S1.kd (by intro z; cases z))]; exact hx1, L.cl, L.nk, lkk .., kt, od, rfl, .inl ⟨kkv ks', upd_same, fun Da nD => ?_⟩⟩⟩
          have hkl : (kkv ks').length = ks'.length := List.length_map ..
          refine lc_it walk_keys (fun i H' => Same (upd H1 kt (.frz od (.dK (kkv ks')))) H' ∧ H' Da = some (.lst (((ks'.take i).filter fun k => decide (z ∈ k.fcs)).map fun k => V.str k.nm))) ⟨same_new nD, upd_same⟩ (fun i H _ p => p.1 _ _ upd_same) ?_ ?_
          · rintro i y2 H2 H3 hi ⟨sm, ed⟩ ⟨rfl, kk, v, e, rfl⟩
            obtain ⟨r, er, rfl, rfl⟩ := kkv_at e
            have hm := List.mem_of_getElem? er
            have rkd : Rd H3 kt (.dK (kkv ks')) := .inr ⟨od, sm _ _ upd_same⟩
            have hr' := S1.ka r hm
            have hx3 : H3 x = some (.ins C dx0 (pfs kt ft ut root)) := sm _ _ (by rw [upd_ne (ne_of hx1 S1.kd (by intro z; cases z))]; exact hx1)
            have ht : SqT K H3 r.t [.ref r.fa, .ref r.da] := .inl (.inl (sm _ _ (by rw [upd_ne (ne_of hr'.t S1.kd (by intro z; cases z))]; exact hr'.t)))
            have hfa : SqT K H3 r.fa (r.fcs.map V.str) := .inl (.inl (sm _ _ (by rw [upd_ne (ne_of hr'.f S1.kd (by intro z; cases z))]; exact hr'.f)))
            have et : ks'.take (i + 1) = ks'.take i ++ [r] := by rw [List.take_add_one, er]; rfl
            have hl6 := rk.1
            refine ⟨rfl, .str z, rfl, .ref x, rfl, x, C, dx0, _, _, rfl, hx3, L.cl, L.nk, lkk .., .str r.nm, rfl, kt, _, rfl, .inl ⟨kkv ks', .inr r.nm, rkd, rfl, (kkv_val ndk hm).symm⟩, r.t, _, 0, _, rfl, rfl, ht, atI_nat (j := 0) rfl, r.fa, _, rfl, .inr hfa, rfl, flat_map _, _, rfl, ?_⟩
            by_cases hin : z ∈ r.fcs
            · show if (if false = true then !inV (.str z) (r.fcs.map V.str) else inV (.str z) (r.fcs.map V.str)) = true then _ else _
              rw [if_neg (show ¬ (false = true) by decide), inV_strs, decide_eq_true hin, if_pos rfl]
              refine ⟨.str r.nm, rfl, _, ed, ?_, same_upd sm nD, ?_⟩
              · rw [List.length_map]
                have h1 := List.length_filter_le (fun k : KRow => decide (z ∈ k.fcs)) (ks'.take i)
                have h2 := List.length_take_le i ks'
                exact Nat.lt_of_le_of_lt (show _ ≤ 1000 by omega) (by decide)
              · rw [upd_same, et, List.filter_append, List.map_append]
                rw [List.filter_cons_of_pos (by simpa using hin)]
                rfl
            · show if (if false = true then !inV (.str z) (r.fcs.map V.str) else inV (.str z) (r.fcs.map V.str)) = true then _ else _
              rw [if_neg (show ¬ (false = true) by decide), inV_strs, decide_eq_false hin, if_neg (by decide)]
              refine ⟨sm, ?_⟩
              rw [et, List.filter_append, List.filter_cons_of_neg (by simpa using hin), List.filter_nil, List.append_nil]
              exact ed
          · rintro H2 ⟨sm, ed⟩
            rw [hkl, List.take_length] at ed
            refine ⟨sm _ _ upd_same, ?_⟩
            have nDk : Da ≠ kt := fun z => by rw [z, upd_same] at nD; cases nD
            have s2 : Same H1 (upd H2 kt (.dK (kkv ks'))) := same_unlock S1.kd sm
            have efil : (ks'.filter fun k => decide (z ∈ k.fcs)).map (·.nm) = (ks.filter fun k => decide (z ∈ k.fcs)).map (·.nm) := by
              have key : ∀ {l l' : List KRow}, l'.length = l.length → (∀ (j : Nat) (a b : KRow), l[j]? = some a → l'[j]? = some b → b.nm = a.nm ∧ b.fcs.Perm a.fcs) → (l'.filter fun k => decide (z ∈ k.fcs)).map (·.nm) = (l.filter fun k => decide (z ∈ k.fcs)).map (·.nm) := by
                intro l
                induction l with
                | nil =>
                  intro l' hl _
                  rw [List.length_eq_zero_iff.mp hl]
                | cons a l ih =>
                  intro l' hl h
                  cases l' with
                  | nil => cases hl
                  | cons b l' =>
                    obtain ⟨h1, h2⟩ := h 0 a b rfl rfl
                    have ih' := ih (l' := l') (Nat.succ.inj hl) fun j a' b' ea eb => h (j + 1) a' b' ea eb
                    rw [List.filter_cons, List.filter_cons]
                    by_cases hh : z ∈ a.fcs
                    · rw [if_pos (decide_eq_true (h2.mem_iff.mpr hh)), if_pos (decide_eq_true hh), List.map_cons, List.map_cons, ih', h1]
                    · rw [if_neg (by simpa using fun q => hh (h2.mem_iff.mp q)), if_neg (by simpa using hh), ih']
              exact key rk.1 fun j a b ea eb => ⟨(rk.2 j a b ea eb).1, (rk.2 j a b ea eb).2.1⟩
            have e4 : (upd H2 kt (.dK (kkv ks'))) Da = some (.lst (((ks.filter fun k => decide (z ∈ k.fcs)).map (·.nm)).map V.str)) := by
              rw [upd_ne nDk, ed, ← efil, List.map_map]
              rfl
            have hle := List.length_filter_le (fun k : KRow => decide (z ∈ k.fcs)) ks
            have s3 := s1.trans s2
            refine ⟨Da, _, rfl, SqL.of e4, by rw [List.length_map]; omega, fun ys p pm so np => q ys p _ ⟨so, ?_, .inr (.inr ⟨hk, hu', pm⟩)⟩ (s3.trans (same_new np)) (s3.free np) upd_same⟩
            rw [pm.length_eq, List.length_map]
            omega
    · rcases hbad with ⟨z, rfl, hz⟩ | ⟨t, ht, hkt⟩
      · refine ⟨.str z, rfl, .ref x, rfl, x, dx0, _, rfl, hx, x, .str z, ks, fs, us, root, rfl, Bt, k1, f1', u1, .inl ⟨z, rfl, fun H1 s1 => ⟨_, rfl, _, rfl, ?_⟩⟩⟩
        rw [decide_eq_false hz]
        exact iteT ⟨.str z, rfl, by show 1 ≤ 1000; decide, bad H1 s1 q⟩
      · exact ⟨y, rfl, .ref x, rfl, x, dx0, _, rfl, hx, x, y, ks, fs, us, root, rfl, Bt, k1, f1', u1, .inr ⟨t, ht, hkt, fun H1 s1 => ⟨_, rfl, _, rfl, iteT ⟨y, rfl, by show 1 ≤ 1000; decide, bad H1 s1 q⟩⟩⟩⟩
end
end NW
namespace NW
open PySem PySem.Spec PyProof.Rows L2
/-! ### kinds that are linked by faces -/
theorem KRow.uniq' {ks : List KRow} (nd : (ks.map (·.nm)).Nodup) {k k' : KRow} (m : k ∈ ks) (m' : k' ∈ ks) (e : k.nm = k'.nm) : k = k' := by
  induction ks with
  | nil => cases m
  | cons a r ih =>
    have nd' : a.nm ∉ r.map (·.nm) ∧ (r.map (·.nm)).Nodup := List.nodup_cons.mp nd
    rcases List.mem_cons.mp m with rfl | m1
    · rcases List.mem_cons.mp m' with rfl | m2
      · rfl
      · exact absurd (List.mem_map.mpr ⟨k', m2, e.symm⟩) nd'.1
    · rcases List.mem_cons.mp m' with rfl | m2
      · exact absurd (List.mem_map.mpr ⟨k, m1, e⟩) nd'.1
      · exact ih nd'.2 m1 m2
theorem fld_uniq {fds : List Fld} (nd : (fds.map (·.1)).Nodup) {x y : Fld} (m : x ∈ fds) (m' : y ∈ fds) (e : x.1 = y.1) : x = y := by
  induction fds with
  | nil => cases m
  | cons a r ih =>
    have nd' : a.1 ∉ r.map (·.1) ∧ (r.map (·.1)).Nodup := List.nodup_cons.mp nd
    rcases List.mem_cons.mp m with rfl | m1
    · rcases List.mem_cons.mp m' with rfl | m2
      · rfl
      · exact absurd (List.mem_map.mpr ⟨y, m2, e.symm⟩) nd'.1
    · rcases List.mem_cons.mp m' with rfl | m2
      · exact absurd (List.mem_map.mpr ⟨x, m1, e⟩) nd'.1
      · exact ih nd'.2 m1 m2
def HasFc (ks : List KRow) (fc z : Str) : Prop := ∃ k ∈ ks, k.nm = z ∧ fc ∈ k.fcs
def FaceHas (fs : List FRow) (g fc : Str) : Prop := ∃ f ∈ fs, f.nm = fc ∧ g ∈ f.fds.map (·.1)
def Stp (ks : List KRow) (fs : List FRow) (g a b : Str) : Prop := ∃ fc, HasFc ks fc a ∧ FaceHas fs g fc ∧ HasFc ks fc b
inductive Lk (ks : List KRow) (fs : List FRow) (g z0 : Str) : Str → Prop
  | base : Lk ks fs g z0 z0
  | step {a b : Str} : Lk ks fs g z0 a → Stp ks fs g a b → Lk ks fs g z0 b
structure LinkL (ks : List KRow) (fs : List FRow) (g z0 : Str) (l : List Str) : Prop where
  nd : l.Nodup
  so : sortedS l = true
  mem : ∀ z, z ∈ l ↔ Lk ks fs g z0 z
section
variable {ks ks' : List KRow} {fs fs' : List FRow} {us : List URow} {g z0 root : Str} {l m : List Str}
theorem Stp.symm {a b : Str} (h : Stp ks fs g a b) : Stp ks fs g b a := by
  obtain ⟨fc, h1, h2, h3⟩ := h
  exact ⟨fc, h3, h2, h1⟩
theorem Lk.trans {a b : Str} (h : Lk ks fs g z0 a) (h' : Lk ks fs g a b) : Lk ks fs g z0 b := by
  induction h' with
  | base => exact h
  | step _ s ih => exact ih.step s
theorem Lk.symm {a : Str} (h : Lk ks fs g z0 a) : Lk ks fs g a z0 := by
  induction h with
  | base => exact .base
  | step _ s ih => exact (Lk.base.step s.symm).trans ih
theorem LinkL.one (h : LinkL ks fs g z0 l) (h' : LinkL ks fs g z0 m) : l = m :=
  sorted_one h.so h'.so ((List.perm_ext_iff_of_nodup h.nd h'.nd).mpr fun z => (h.mem z).trans (h'.mem z).symm)
theorem LinkL.move {z : Str} (h : LinkL ks fs g z0 l) (m : z ∈ l) : LinkL ks fs g z l :=
  ⟨h.nd, h.so, fun y => (h.mem y).trans ⟨fun k => ((h.mem z).mp m).symm.trans k, fun k => ((h.mem z).mp m).trans k⟩⟩
theorem Lk.inKs (h0 : z0 ∈ ks.map (·.nm)) {z : Str} (h : Lk ks fs g z0 z) : z ∈ ks.map (·.nm) := by
  cases h with
  | base => exact h0
  | step _ s =>
    obtain ⟨_, _, _, k, m, e, _⟩ := s
    exact List.mem_map.mpr ⟨k, m, e⟩
/-- the field g of the kind z has this shape -/
def FShp (ks : List KRow) (z g : Str) (s : Shp) : Prop := ∃ k ∈ ks, k.nm = z ∧ ∃ f ∈ k.fds, f.1 = g ∧ f.2.2 = s
theorem FShp.step (ok : SchOk ks fs us root) {a b : Str} {s : Shp} (h : FShp ks a g s) (t : Stp ks fs g a b) : FShp ks b g s := by
  obtain ⟨fc, ⟨ka, ma, ea, ca⟩, ⟨f, mf, ef, hg⟩, ⟨kb, mb, eb, cb⟩⟩ := t
  obtain ⟨k, mk, ek, x, mx, ex, es⟩ := h
  have e1 : k = ka := KRow.uniq' ok.ndk mk ma (ek.trans ea.symm)
  subst e1
  obtain ⟨y, my, ey⟩ := List.mem_map.mp hg
  subst ef
  obtain ⟨ya, mya, ey1, ey2⟩ := ok.ff f mf k mk ca y my
  obtain ⟨yb, myb, ez1, ez2⟩ := ok.ff f mf kb mb cb y my
  have : ya = x := fld_uniq (ok.kd k mk).nd mya mx (ey1.trans (ey.trans ex.symm))
  subst this
  exact ⟨kb, mb, eb, yb, myb, ez1.trans ey, ez2.trans (ey2.symm.trans es)⟩
theorem FShp.link (ok : SchOk ks fs us root) {s : Shp} (h : FShp ks z0 g s) {z : Str} (t : Lk ks fs g z0 z) : FShp ks z g s := by
  induction t with
  | base => exact h
  | step _ s ih => exact ih.step ok s
/-! ### the same up to what is built -/
theorem at_len {α : Type} {l m : List α} (h : m.length = l.length) {i : Nat} {a : α} (e : l[i]? = some a) : ∃ b, m[i]? = some b := by
  have hi := (List.getElem?_eq_some_iff.mp e).1
  exact ⟨m[i]'(by omega), List.getElem?_eq_getElem _⟩
theorem map_rel {α β : Type} {f : α → β} {l m : List α} (hl : m.length = l.length) (h : ∀ (i : Nat) a b, l[i]? = some a → m[i]? = some b → f b = f a) : m.map f = l.map f := by
  refine List.ext_getElem? fun i => ?_
  rw [List.getElem?_map, List.getElem?_map]
  cases e : l[i]? with
  | none =>
    have : m[i]? = none := by
      rw [List.getElem?_eq_none_iff] at e ⊢
      omega
    rw [this]
  | some a =>
    obtain ⟨b, eb⟩ := at_len hl e
    rw [eb]
    exact congrArg some (h i a b e eb)
theorem RelK.fwd (h : RelK ks ks') {k : KRow} (m : k ∈ ks) : ∃ k' ∈ ks', k'.nm = k.nm ∧ k'.fcs.Perm k.fcs ∧ k'.fds = k.fds := by
  obtain ⟨i, hi⟩ := List.getElem?_of_mem m
  obtain ⟨b, eb⟩ := at_len h.1 hi
  obtain ⟨e1, e2, _, e3⟩ := h.2 i k b hi eb
  exact ⟨b, List.mem_of_getElem? eb, e1, e2, e3⟩
theorem RelK.back (h : RelK ks ks') {k' : KRow} (m : k' ∈ ks') : ∃ k ∈ ks, k'.nm = k.nm ∧ k'.fcs.Perm k.fcs ∧ k'.fds = k.fds := by
  obtain ⟨i, hi⟩ := List.getElem?_of_mem m
  obtain ⟨b, eb⟩ := at_len h.1.symm hi
  obtain ⟨e1, e2, _, e3⟩ := h.2 i b k' eb hi
  exact ⟨b, List.mem_of_getElem? eb, e1, e2, e3⟩
theorem RelF.fwd (h : RelF fs fs') {k : FRow} (m : k ∈ fs) : ∃ k' ∈ fs', k'.nm = k.nm ∧ k'.fds = k.fds := by
  obtain ⟨i, hi⟩ := List.getElem?_of_mem m
  obtain ⟨b, eb⟩ := at_len h.1 hi
  obtain ⟨e1, e3⟩ := h.2 i k b hi eb
  exact ⟨b, List.mem_of_getElem? eb, e1, e3⟩
theorem RelF.back (h : RelF fs fs') {k' : FRow} (m : k' ∈ fs') : ∃ k ∈ fs, k'.nm = k.nm ∧ k'.fds = k.fds := by
  obtain ⟨i, hi⟩ := List.getElem?_of_mem m
  obtain ⟨b, eb⟩ := at_len h.1.symm hi
  obtain ⟨e1, e3⟩ := h.2 i b k' eb hi
  exact ⟨b, List.mem_of_getElem? eb, e1, e3⟩
theorem RelK.hasFc (h : RelK ks ks') {fc z : Str} : HasFc ks' fc z ↔ HasFc ks fc z := by
  constructor
  · rintro ⟨k, m, e, c⟩
    obtain ⟨k2, m2, e1, e2, _⟩ := h.back m
    exact ⟨k2, m2, e1.symm.trans e, e2.mem_iff.mp c⟩
  · rintro ⟨k, m, e, c⟩
    obtain ⟨k2, m2, e1, e2, _⟩ := h.fwd m
    exact ⟨k2, m2, e1.trans e, e2.mem_iff.mpr c⟩
theorem RelF.faceHas (h : RelF fs fs') {fc : Str} : FaceHas fs' g fc ↔ FaceHas fs g fc := by
  constructor
  · rintro ⟨k, m, e, c⟩
    obtain ⟨k2, m2, e1, e2⟩ := h.back m
    exact ⟨k2, m2, e1.symm.trans e, e2 ▸ c⟩
  · rintro ⟨k, m, e, c⟩
    obtain ⟨k2, m2, e1, e2⟩ := h.fwd m
    exact ⟨k2, m2, e1.trans e, e2.symm ▸ c⟩
/-! ### a field that gets another shape -/
def putF (fds : List Fld) (g : Str) (v : V) (sh : Shp) : List Fld := fds.map fun f => if f.1 = g then (g, v, sh) else f
variable {v : V} {sh : Shp} {S T : Str → Prop}
theorem putF_names (fds : List Fld) : (putF fds g v sh).map (·.1) = fds.map (·.1) := by
  unfold putF
  rw [List.map_map]
  refine List.map_congr_left fun f _ => ?_
  show (if f.1 = g then (g, v, sh) else f).1 = f.1
  by_cases e : f.1 = g
  · rw [if_pos e]; exact e.symm
  · rw [if_neg e]
theorem putF_out {fds : List Fld} (h : g ∉ fds.map (·.1)) : putF fds g v sh = fds := by
  unfold putF
  have : ∀ f ∈ fds, (if f.1 = g then (g, v, sh) else f) = f := fun f m => if_neg fun e => h (List.mem_map.mpr ⟨f, m, e⟩)
  rw [List.map_congr_left this, List.map_id']
theorem putF_idem (fds : List Fld) : putF (putF fds g v sh) g v sh = putF fds g v sh := by
  unfold putF
  rw [List.map_map]
  refine List.map_congr_left fun f _ => ?_
  show (if (if f.1 = g then (g, v, sh) else f).1 = g then (g, v, sh) else (if f.1 = g then (g, v, sh) else f)) = _
  by_cases e : f.1 = g
  · rw [if_pos e]; exact if_pos rfl
  · rw [if_neg e, if_neg e]
theorem putF_mem {fds : List Fld} {x : Fld} (h : x ∈ putF fds g v sh) : (∃ y ∈ fds, y.1 = g ∧ x = (g, v, sh)) ∨ (x ∈ fds ∧ x.1 ≠ g) := by
  obtain ⟨y, m, e⟩ := List.mem_map.mp h
  by_cases hy : y.1 = g
  · rw [if_pos hy] at e
    exact .inl ⟨y, m, hy, e.symm⟩
  · rw [if_neg hy] at e
    subst e
    exact .inr ⟨m, hy⟩
theorem putF_at {fds : List Fld} {y : Fld} (m : y ∈ fds) (e : y.1 = g) : ((g, v, sh) : Fld) ∈ putF fds g v sh := List.mem_map.mpr ⟨y, m, if_pos e⟩
theorem putF_keep {fds : List Fld} {y : Fld} (m : y ∈ fds) (e : y.1 ≠ g) : y ∈ putF fds g v sh := List.mem_map.mpr ⟨y, m, if_neg e⟩
theorem putF_len (fds : List Fld) : (putF fds g v sh).length = fds.length := List.length_map ..
theorem fkv_putF {fds : List Fld} (h : g ∈ fds.map (·.1)) : fkv (putF fds g v sh) = putK (fkv fds) (Sum.inr g) v := by
  obtain ⟨y, m, e⟩ := List.mem_map.mp h
  have hany : ((fkv fds).any fun kv => decide (kv.1 = (Sum.inr g : Key))) = true := List.any_eq_true.mpr ⟨(Sum.inr y.1, y.2.1), List.mem_map.mpr ⟨y, m, rfl⟩, decide_eq_true (by rw [e])⟩
  unfold putK
  rw [if_pos hany]
  unfold fkv putF
  rw [List.map_map, List.map_map]
  refine List.map_congr_left fun f _ => ?_
  show ((Sum.inr (if f.1 = g then (g, v, sh) else f).1 : Key), (if f.1 = g then (g, v, sh) else f).2.1) = if ((Sum.inr f.1 : Key), f.2.1).1 = Sum.inr g then (((Sum.inr f.1 : Key), f.2.1).1, v) else ((Sum.inr f.1 : Key), f.2.1)
  by_cases e : f.1 = g
  · rw [if_pos e, if_pos (by rw [e]), e]
  · rw [if_neg e, if_neg (fun z => e (Sum.inr.inj z))]
def ReK (S : Str → Prop) (g : Str) (v : V) (sh : Shp) (ks ks2 : List KRow) : Prop := ks2.length = ks.length ∧ ∀ (i : Nat) (k k2 : KRow), ks[i]? = some k → ks2[i]? = some k2 → k2.nm = k.nm ∧ k2.fcs = k.fcs ∧ (S k.nm → k2.fds = putF k.fds g v sh) ∧ (¬ S k.nm → k2.fds = k.fds)
def ReF (T : Str → Prop) (g : Str) (v : V) (sh : Shp) (fs fs2 : List FRow) : Prop := fs2.length = fs.length ∧ ∀ (i : Nat) (f f2 : FRow), fs[i]? = some f → fs2[i]? = some f2 → f2.nm = f.nm ∧ (T f.nm → f2.fds = putF f.fds g v sh) ∧ (¬ T f.nm → f2.fds = f.fds)
theorem ReK.back (h : ReK S g v sh ks ks') {k' : KRow} (m : k' ∈ ks') : ∃ k ∈ ks, k'.nm = k.nm ∧ k'.fcs = k.fcs ∧ (S k.nm → k'.fds = putF k.fds g v sh) ∧ (¬ S k.nm → k'.fds = k.fds) := by
  obtain ⟨i, hi⟩ := List.getElem?_of_mem m
  obtain ⟨b, eb⟩ := at_len h.1.symm hi
  exact ⟨b, List.mem_of_getElem? eb, h.2 i b k' eb hi⟩
theorem ReK.fwd (h : ReK S g v sh ks ks') {k : KRow} (m : k ∈ ks) : ∃ k' ∈ ks', k'.nm = k.nm ∧ k'.fcs = k.fcs ∧ (S k.nm → k'.fds = putF k.fds g v sh) ∧ (¬ S k.nm → k'.fds = k.fds) := by
  obtain ⟨i, hi⟩ := List.getElem?_of_mem m
  obtain ⟨b, eb⟩ := at_len h.1 hi
  exact ⟨b, List.mem_of_getElem? eb, h.2 i k b hi eb⟩
theorem ReF.back (h : ReF T g v sh fs fs') {k' : FRow} (m : k' ∈ fs') : ∃ k ∈ fs, k'.nm = k.nm ∧ (T k.nm → k'.fds = putF k.fds g v sh) ∧ (¬ T k.nm → k'.fds = k.fds) := by
  obtain ⟨i, hi⟩ := List.getElem?_of_mem m
  obtain ⟨b, eb⟩ := at_len h.1.symm hi
  exact ⟨b, List.mem_of_getElem? eb, h.2 i b k' eb hi⟩
theorem ReK.names (h : ReK S g v sh ks ks') : ks'.map (·.nm) = ks.map (·.nm) := map_rel h.1 fun i a b ea eb => (h.2 i a b ea eb).1
theorem ReF.names (h : ReF T g v sh fs fs') : fs'.map (·.nm) = fs.map (·.nm) := map_rel h.1 fun i a b ea eb => (h.2 i a b ea eb).1
theorem FdsOk.put {bs : List Str} {fds : List Fld} {n : Nat} (h : FdsOk bs fds n) (hs : okS bs 4 false sh) : FdsOk bs (putF fds g v sh) n := by
  refine ⟨by rw [putF_len]; exact h.n0, by rw [putF_len]; exact h.n1, by rw [putF_names]; exact h.nd, fun f m => ?_, fun f m => ?_, h.tx⟩
  · rcases putF_mem m with ⟨y, my, ey, rfl⟩ | ⟨m2, _⟩
    · exact ey ▸ h.nm y my
    · exact h.nm f m2
  · rcases putF_mem m with ⟨y, my, ey, rfl⟩ | ⟨m2, _⟩
    · exact hs
    · exact h.sh f m2
open Classical in
theorem re_ok (ok : SchOk ks fs us root) (rk : ReK S g v sh ks ks') (rf : ReF T g v sh fs fs') (hs : okS (bsOf ks fs us) 4 false sh) (cl : ∀ a b, S a → Stp ks fs g a b → S b) (hT : ∀ fc, T fc ↔ ∃ a, S a ∧ HasFc ks fc a) : SchOk ks' fs' us root := by
  have eb : bsOf ks' fs' us = bsOf ks fs us := by unfold bsOf; rw [rk.names, rf.names]
  refine ⟨by rw [rk.1]; exact ok.k0, by rw [rk.1]; exact ok.k1, by rw [rf.1]; exact ok.f1, ok.u1, by rw [eb]; exact ok.nd, fun k m => ?_, fun f m => ?_, ok.nu, fun k m => ?_, fun k m => ?_, fun f m => ?_, fun f m => ?_, fun f mf k mk hc x mx => ?_, fun u m => ?_, by rw [rk.names]; exact ok.rt⟩
  · obtain ⟨k1, m1, e1, _⟩ := rk.back m
    exact e1 ▸ ok.nk k1 m1
  · obtain ⟨k1, m1, e1, _⟩ := rf.back m
    exact e1 ▸ ok.nf k1 m1
  · obtain ⟨k1, m1, e1, e2, _⟩ := rk.back m
    rw [e2, rf.names]
    exact ok.kf k1 m1
  · obtain ⟨k1, m1, e1, e2, h1, h2⟩ := rk.back m
    rw [eb]
    by_cases hS : S k1.nm
    · rw [h1 hS]; exact (ok.kd k1 m1).put hs
    · rw [h2 hS]; exact ok.kd k1 m1
  · obtain ⟨k1, m1, e1, h1, h2⟩ := rf.back m
    rw [eb]
    by_cases hS : T k1.nm
    · rw [h1 hS]; exact (ok.fd k1 m1).put hs
    · rw [h2 hS]; exact ok.fd k1 m1
  · obtain ⟨f1, m1, e1, _⟩ := rf.back m
    obtain ⟨k1, mk1, hk⟩ := ok.fk f1 m1
    obtain ⟨k2, mk2, e2, e3, _⟩ := rk.fwd mk1
    exact ⟨k2, mk2, by rw [e3, e1]; exact hk⟩
  · obtain ⟨f1, mf1, ef, p1, p2⟩ := rf.back mf
    obtain ⟨k1, mk1, ek, ec, q1, q2⟩ := rk.back mk
    rw [ec, ef] at hc
    have hfc : HasFc ks f1.nm k1.nm := ⟨k1, mk1, rfl, hc⟩
    have same := ok.ff f1 mf1 k1 mk1 hc
    by_cases hS : S k1.nm
    · rw [p1 ((hT _).mpr ⟨_, hS, hfc⟩)] at mx
      rw [q1 hS]
      rcases putF_mem mx with ⟨y, my, ey, rfl⟩ | ⟨m2, n2⟩
      · obtain ⟨z, mz, ez, _⟩ := same y my
        exact ⟨_, putF_at mz (ez.trans ey), rfl, rfl⟩
      · obtain ⟨z, mz, ez, ez2⟩ := same x m2
        exact ⟨z, putF_keep mz (fun e => n2 (ez.symm.trans e)), ez, ez2⟩
    · rw [q2 hS]
      have : f.fds = f1.fds := by
        by_cases hT1 : T f1.nm
        · rw [p1 hT1]
          refine putF_out fun hg => hS ?_
          obtain ⟨a, ha, hc2⟩ := (hT _).mp hT1
          exact cl a k1.nm ha ⟨f1.nm, hc2, ⟨f1, mf1, rfl, hg⟩, hfc⟩
        · exact p2 hT1
      rw [this] at mx
      exact same x mx
  · rw [rk.names]
    exact ok.ud u m
/-- the built one after the change stands to the changed rows as before -/
theorem relK_re {ks2 ks3 ks4 : List KRow} (h : RelK ks ks') (r : ReK S g v sh ks' ks2) (h4 : RelK ks2 ks4) (r3 : ReK S g v sh ks ks3) : RelK ks3 ks4 := by
  refine ⟨by rw [h4.1, r.1, h.1, r3.1], fun i k3 k4 e3 e4 => ?_⟩
  obtain ⟨k, ek⟩ := at_len (l := ks3) (m := ks) r3.1.symm e3
  obtain ⟨k', ek'⟩ := at_len h.1 ek
  obtain ⟨k2, ek2⟩ := at_len r.1 ek'
  obtain ⟨a1, a2, a3, a4⟩ := h.2 i k k' ek ek'
  obtain ⟨b1, b2, b3, b4⟩ := r.2 i k' k2 ek' ek2
  obtain ⟨c1, c2, c3, c4⟩ := h4.2 i k2 k4 ek2 e4
  obtain ⟨d1, d2, d3, d4⟩ := r3.2 i k k3 ek e3
  refine ⟨by rw [c1, b1, a1, d1], ?_, c3, ?_⟩
  · rw [d2]
    exact c2.trans (by rw [b2]; exact a2)
  · rw [c4]
    rcases Classical.em (S k.nm) with hS | hS
    · rw [b3 (by rw [a1]; exact hS), d3 hS, a4]
    · rw [b4 (by rw [a1]; exact hS), d4 hS, a4]
theorem relF_re {fs2 fs3 fs4 : List FRow} (h : RelF fs fs') (r : ReF T g v sh fs' fs2) (h4 : RelF fs2 fs4) (r3 : ReF T g v sh fs fs3) : RelF fs3 fs4 := by
  refine ⟨by rw [h4.1, r.1, h.1, r3.1], fun i k3 k4 e3 e4 => ?_⟩
  obtain ⟨k, ek⟩ := at_len (l := fs3) (m := fs) r3.1.symm e3
  obtain ⟨k', ek'⟩ := at_len h.1 ek
  obtain ⟨k2, ek2⟩ := at_len r.1 ek'
  obtain ⟨a1, a4⟩ := h.2 i k k' ek ek'
  obtain ⟨b1, b3, b4⟩ := r.2 i k' k2 ek' ek2
  obtain ⟨c1, c4⟩ := h4.2 i k2 k4 ek2 e4
  obtain ⟨d1, d3, d4⟩ := r3.2 i k k3 ek e3
  refine ⟨by rw [c1, b1, a1, d1], ?_⟩
  rw [c4]
  rcases Classical.em (T k.nm) with hS | hS
  · rw [b3 (by rw [a1]; exact hS), d3 hS, a4]
  · rw [b4 (by rw [a1]; exact hS), d4 hS, a4]
end
end NW
namespace NW
open PySem PySem.Spec PyProof.Rows L2
section
variable {prog : Program} {w : World} {κ : Type} [DecidableEq κ] {kn : KeyKind prog w κ} {A : Around} {E : Value → Shared → Prop} {s : Shared}
theorem put_wp {d : Addr} {l : List (κ × Value)} {k : κ} {key v : Value} {Q : Unit → Shared → Prop} (hk : kn.is k key = true) (hm : s.heap.DictOf kn d l) (hz : l.length ≤ sizeLine)
    (q : ∀ g, g.DictOf kn d (stored l k v) → Heap.SameBut d s.heap g → Q () { s with heap := g }) : wpAny (model prog w) A (dictPut d (kn.hash k) key v) Q E s := by
  obtain ⟨ob, ar, ag, at_, cl, da, ks, pr, nd⟩ := hm
  have few : ar.size ≤ sizeLine := by
    have e1 := pr.length
    have e2 : ar.toList.length = ar.size := by simp
    omega
  unfold dictPut
  refine wpAny_bind (wpAny_dictFind_of hk at_ da ks ?_)
  have idx : (ar.findIdx? fun e => kn.is k e.key) = l.findIdx? fun kv => decide (kv.1 = k) := by
    rw [← pr.findIdx k]
    obtain ⟨m⟩ := ar
    simp
  cases hi : ar.findIdx? fun e => kn.is k e.key with
  | some i =>
    have anyk := any_of_findIdx_some (idx ▸ hi)
    refine wpAny_updateDict at_ da (q _ ⟨_, _, ag, Heap.get?_update_self _ at_ (Obj.isFreed_of_dict (Obj.data_mapDict da _)), cl.mapDict _, Obj.data_mapDict da _, ks.modify _ _, ?_, ?_⟩ (Heap.SameBut.update ..))
    · have hl : (ar.toList.findIdx? fun e => kn.is k e.key) = some i := by
        rw [← hi]
        obtain ⟨m⟩ := ar
        simp
      rw [stored, if_pos anyk]
      have z := pr.modify nd hl v
      obtain ⟨m⟩ := ar
      simpa using z
    · rw [stored, if_pos anyk, keys_map_store]
      exact nd
  | none =>
    have out : k ∉ l.map (·.1) := not_mem_of_findIdx_none (idx ▸ hi)
    have nany : ¬ (l.any fun kv => decide (kv.1 = k)) = true := fun z => by
      obtain ⟨kv, m, e⟩ := List.any_eq_true.mp z
      exact out (List.mem_map.mpr ⟨kv, m, of_decide_eq_true e⟩)
    refine wpAny_updateDictKeys (hz := few) at_ da (q _ ⟨_, _, ag + 1, Heap.get?_update_self _ at_ (Obj.isFreed_of_dict (Obj.data_mapDictKeys da _)), cl.mapDictKeys _, Obj.data_mapDictKeys da _, ks.push hk _, ?_, ?_⟩ (Heap.SameBut.update ..))
    · rw [stored, if_neg nany]
      have z := pr.append hk (kn.hash k) v
      obtain ⟨m⟩ := ar
      simpa using z
    · rw [stored, if_neg nany, List.map_append, List.nodup_append]
      refine ⟨nd, by simp, fun x hx y hy => ?_⟩
      simp only [List.map_cons, List.map_nil, List.mem_singleton] at hy
      subst hy
      exact fun e => out (e ▸ hx)
/-- a dict merged into another one: the mapping road, where no key is an object -/
theorem merge_wp {d o : Addr} {l more : List (κ × Value)} {Q : Unit → Shared → Prop} (ne : d ≠ o) (nS : (o == sysModules) = false) (hd : s.heap.DictOf kn d l) (ho : s.heap.DictOf kn o more) (hz : l.length + more.length ≤ sizeLine)
    (plain : ∀ k v, kn.is k v = true → ∀ a, v ≠ .ref a)
    (q : ∀ g, g.DictOf kn d (merged l more) → Heap.SameBut d s.heap g → Q () { s with heap := g }) : wpAny (model prog w) A (mergeMapping d (.ref o) false) Q E s := by
  obtain ⟨ob, ar, ag, at_, cl, da, ks, pr, nd⟩ := id hd
  obtain ⟨ob2, ar2, ag2, at2, cl2, da2, ks2, pr2, nd2⟩ := id ho
  have hlen : more.length = ar2.size := by rw [← pr2.length]; simp
  unfold mergeMapping
  refine wpAny_bind (wpAny_isInstance ho.typeIs isSubtype_dict_dict ?_)
  dsimp only
  rw [if_pos rfl]
  refine wpAny_bind (wpAny_specialOf ho.typeIs F.slot_dict_iter.lookup ?_)
  simp only [beq_self_eq_true]
  refine wpAny_bind (wpAny_pure ?_)
  dsimp only
  rw [if_neg (by rw [nS]; exact Bool.false_ne_true)]
  have loop : wpAny (model prog w) A (do
      let all ← dictEntries o
      let e0 ← dictEpoch o
      forIn (List.range all.size) PUnit.unit fun i (_ : PUnit) => (do
          let now ← dictEntries o
          match now[i]? with
            | some e => do
              holding [e.key, e.val] (if false = true then (do
                  let at_ ← dictFind d e.key e.hash
                  if at_.isSome = true then (do
                      rule "dict.merge.duplicate-key"
                      let x ← newExc (Value.type "KeyError") [e.key]
                      raiseNew x
                      dictPut d e.hash e.key e.val)
                    else dictPut d e.hash e.key e.val)
                else dictPut d e.hash e.key e.val)
              let e1 ← dictEpoch o
              if (e1 != e0) = true then (do
                  unsupported "dict.changed-during-merge"
                  pure (ForInStep.yield PUnit.unit))
                else pure (ForInStep.yield PUnit.unit)
            | _ => do
              unsupported "dict.changed-during-merge"
              pure (ForInStep.yield PUnit.unit))
      pure ()) Q E s := by
    refine wpAny_bind (wpAny_dictEntries at2 da2 (wpAny_bind (wpAny_dictEpoch at2 da2 (wpAny_bind ?_))))
    refine wpAny_forIn_list _ (fun rest _ s' => ∃ g i, s' = { s with heap := g } ∧ rest = (List.range ar2.size).drop i ∧ i ≤ ar2.size ∧ g.DictOf kn d (merged l (more.take i)) ∧ g.get? o = some ob2 ∧ Heap.SameBut d s.heap g) _ ?_ ?_ _ _ ⟨s.heap, 0, rfl, rfl, Nat.zero_le _, by simpa [merged] using hd, at2, Heap.SameBut.refl _ _⟩
    · rintro y rest b s' ⟨g, i, rfl, hr, hi, hg, go, sb⟩
      have lt : i < ar2.size := by
        rcases Nat.lt_or_ge i ar2.size with z | z
        · exact z
        · rw [List.drop_eq_nil_of_le (by simpa using z)] at hr
          cases hr
      obtain ⟨rfl, hrest⟩ : y = i ∧ rest = (List.range ar2.size).drop (i + 1) := by
        rw [List.drop_eq_getElem_cons (by simpa using lt)] at hr
        injection hr with z1 z2
        exact ⟨by simpa using z1, z2⟩
      refine wpAny_bind (wpAny_dictEntries go da2 ?_)
      rw [Array.getElem?_eq_getElem lt]
      obtain ⟨kv, ekv⟩ : ∃ kv, more[y]? = some kv := ⟨more[y]'(by rw [hlen]; exact lt), List.getElem?_eq_getElem _⟩
      obtain ⟨k, v⟩ := kv
      obtain ⟨iskey, isval⟩ := pr2.get? (e := ar2[y]) (by simp [lt]) ekv
      obtain ⟨k1, iskey1, eh⟩ := ks2 ar2[y] (Array.getElem_mem lt)
      obtain rfl : k1 = k := kn.inj _ _ _ iskey1 iskey
      dsimp only
      rw [if_neg Bool.false_ne_true, eh, isval]
      have fits : (merged l (more.take y)).length ≤ sizeLine := by
        have a1 := merged_length_le l (more.take y)
        have a2 : (more.take y).length ≤ more.length := by rw [List.length_take]; omega
        omega
      refine wpAny_bind (wpAny_holding (put_wp iskey hg fits fun g2 hg2 sb2 => ?_))
      have go2 : g2.get? o = some ob2 := (sb2.2 o (Ne.symm ne)).trans go
      refine wpAny_bind (wpAny_dictEpoch go2 da2 ?_)
      rw [if_neg (by simp)]
      exact wpAny_pure ⟨g2, y + 1, rfl, hrest, lt, by rw [merged_take_succ l more y (k1, v) ekv]; exact hg2, go2, sb.trans sb2⟩
    · rintro b s' ⟨g, i, rfl, hr, hi, hg, go, sb⟩
      have full : i = ar2.size := by
        rcases Nat.lt_or_ge i ar2.size with z | z
        · rw [List.drop_eq_getElem_cons (by simpa using z)] at hr
          cases hr
        · exact Nat.le_antisymm hi z
      refine wpAny_pure (q g ?_ sb)
      rw [full, ← hlen, List.take_length] at hg
      exact hg
  refine wpAny_bind (wpAny_dictEntries at_ da ?_)
  by_cases emp : ar.isEmpty = true
  · rw [if_pos emp]
    refine wpAny_bind (wpAny_dictEntries at2 da2 (wpAny_bind ?_))
    rw [← Array.forIn_toList]
    refine wpAny_forIn_list _ (fun rest _ s' => s' = s ∧ ∀ e ∈ rest, e ∈ ar2.toList) _ ?_ ?_ _ _ ⟨rfl, fun e m => m⟩
    · rintro e rest b s' ⟨rfl, hm⟩
      have me : e ∈ ar2 := Array.mem_toList_iff.mp (hm e List.mem_cons_self)
      obtain ⟨k1, iskey1, _⟩ := ks2 e me
      have np := plain k1 e.key iskey1
      have mr : ∀ e2 ∈ rest, e2 ∈ ar2.toList := fun e2 m => hm e2 (List.mem_cons_of_mem _ m)
      clear hm me iskey1
      obtain ⟨eh, ek, ev⟩ := e
      dsimp only at np ⊢
      cases ek with
      | ref a => exact absurd rfl (np a)
      | _ => exact wpAny_pure ⟨rfl, mr⟩
    · rintro b s' ⟨rfl, _⟩
      exact loop
  · rw [if_neg emp]
    exact loop
theorem disp_eq (m k v : Sem Value) : dictDisplay [(none, m), (some k, v)] = (do
      let x ← alloc { cls := Value.type "dict", data := Data.dict #[] }
      let y ← holding [Value.ref x] m
      (((holding [Value.ref x, y] (mergeMapping x y false)).onRaise fun z => do
                  let _ ← holding [Value.ref x, y, z] (runValue (Code.builtin "proto.let_go" { }))
                  pure ()).tryCatch
              fun e => do
              let b ← isInstance e (Value.type "AttributeError")
              if b = true then (do
                  rule "dict.display.not-a-mapping"
                  let n ← typeNameOf y
                  raiseErrorMade "TypeError" (toString "'" ++ toString n ++ toString "' object is not a mapping")
                  throw e)
                else throw e).onRaise (fun z => do
          let _ ← holding [Value.ref x, z] (runValue (Code.builtin "proto.let_go" { }))
          pure ())
      let u ← holding [Value.ref x] (subDict [(k, v)])
      (holding [Value.ref x, Value.ref u] (mergeMapping x (Value.ref u) false)).onRaise (fun z => do
                  let _ ← holding [Value.ref x, z] (runValue (Code.builtin "proto.let_go" { }))
                  pure ())
      pure (Value.ref x)) := by
  unfold dictDisplay
  dsimp only
  simp only [List.forIn_cons, List.forIn_nil, List.isEmpty_nil, if_true, pure_bind, bind_assoc]
  refine congrArg _ (funext fun x => ?_)
  refine congrArg _ (funext fun y => ?_)
  refine congrArg _ (funext fun _ => ?_)
  simp [pure_bind, bind_assoc]
end
end NW
namespace NW
open PySem PySem.Spec PyProof.Rows L2
open TL (tl)
theorem key_plain {P : Program} {w : World} : ∀ (k : Key) (v : Value), (mixKind P w).is k v = true → ∀ a, v ≠ .ref a := fun k v h a e => by
  rcases keyIs_shape h with ⟨i, t, _, z⟩ | ⟨x, t, _, z⟩
  · rw [e] at z; cases z
  · rw [e] at z; cases z
/-- {**d, k: v}: the copy p, then a dict of the one pair (p2), which is merged into p -/
def tStar1 (td tk tv : TE) : TE := fun σ H Q => ∀ p, H p = none → td σ (upd H p (.dK [])) fun x H1 => ∃ (o : Addr) (kvs : List (Key × V)), x = .ref o ∧ o ≠ p ∧ Rd H1 o (.dK kvs) ∧ H1 p = some (.dK []) ∧ kvs.length ≤ 1000 ∧
  ∀ p2, (upd H1 p (.dK kvs)) p2 = none → tk σ (upd (upd H1 p (.dK kvs)) p2 (.dK [])) fun y H2 => tv σ H2 fun v H3 => ∃ k : Key, y = kV k ∧ H3 p = some (.dK kvs) ∧ H3 p2 = some (.dK []) ∧ Q (.ref p) (upd (upd H3 p2 (.dK [(k, v)])) p (.dK (putK kvs k v)))
section
variable {X : Cx} {d k v : Expr} {td tk tv : TE} {pos : Pos}
theorem pe_star1 (hd : PE X d td) (hk : PE X k tk) (hv : PE X v tv) : PE X (.Dict [none, some k] [d, v] pos) (tStar1 td tk tv) := by
  refine ⟨fun pins s σ H Q I h => ?_⟩
  show wpAny _ _ (do standAt pos; dictDisplay [(none, do let x ← eval d X.env; standAt pos; pure x), (some (eval k X.env), do let x ← eval v X.env; standAt pos; pure x)]) _ _ _
  rw [disp_eq]
  have fr := I.hok.fresh (Nat.le_refl s.heap.objs.size)
  have I1 := I.laid (a := s.heap.objs.size) (o := .dK []) (h' := s.heap.push { cls := .type "dict", data := .dict #[] }) (t' := s.toks) (fun _ _ z => Heap.get?_push_of_some _ z) (Nat.le_refl _) (dk_empty s.heap I.big)
  refine wpAny_bind (wpAny_standAt (wpAny_bind (wpAny_alloc ?_)))
  refine wpAny_bind (wpAny_holding (wpAny_bind (thn (hd.run pins _ σ _ _ I1 (h _ fr)) fun u s2 ⟨x, H1, I2, rx, o, kvs, ex, ne, ho, hp, few, q⟩ => wpAny_bind (wpAny_standAt (wpAny_pure ?_)))))
  subst ex
  cases rx
  obtain ⟨z1, y1, w1, r1, dd1⟩ := dk_of I2.hok hp
  cases r1
  obtain ⟨z2, y2, w2, r2, dd2⟩ := dk_rd I2.hok ho
  have nd2 : (w2.map (·.1)).Nodup := let ⟨_, _, _, _, _, _, _, _, n⟩ := dd2; n
  have big : 1001 ≤ sizeLine := by decide
  refine wpAny_bind (wpAny_onRaise (wpAny_tryCatch (wpAny_onRaise (wpAny_holding (merge_wp (Ne.symm ne) y2 dd1 dd2 (by rw [← r2.length]; simp; omega) key_plain fun g hg sb => ?_)))))
  rw [merged_nil_of_nodup w2 nd2] at hg
  have he : ∃ z, g.get? s.heap.objs.size = some z := let ⟨z, _, _, e, _⟩ := hg; ⟨z, e⟩
  have I3 := d_write (t' := s2.toks) (ob := .dK kvs) I2 (by rw [hp]; exact True.intro) sb he (dk_new (by omega) y1 r2 hg)
  have fr2 := I3.hok.fresh (Nat.le_refl g.objs.size)
  have I4 := I3.laid (a := g.objs.size) (o := .dK []) (h' := g.push { cls := .type "dict", data := .dict #[] }) (t' := s2.toks) (fun _ _ z => Heap.get?_push_of_some _ z) (Nat.le_refl _) (dk_empty g I3.big)
  refine wpAny_bind (wpAny_holding (wpAny_subDict (knd := mixKind X.prog X.w) (by show 1 ≤ 15; decide) ?_))
  refine evalPairs_cons (thn (hk.run pins _ σ _ _ I4 (q _ fr2)) fun ku s3 ⟨y, H2, I5, ry, q2⟩ => wpAny_bind (thn (hv.run pins _ σ _ _ I5 q2) fun vu s4 ⟨v', H3, I6, rv, kk, ek, e1, e2, q3⟩ => wpAny_bind (wpAny_standAt (wpAny_pure (evalPairs_nil ?_)))))
  subst ek
  obtain ⟨z4, y4, w4, r4, dd4⟩ := dk_of I6.hok e2
  cases r4
  refine ⟨[(kk, vu)], ⟨kV_is ry, rfl, True.intro⟩, dd4, fun g2 hg2 sb2 => ?_⟩
  have np : s.heap.objs.size ≠ g.objs.size := fun e => by
    have z := fr2
    rw [← e, upd_same] at z
    cases z
  have one : KV [(kk, v')] [(kk, vu)] := .cons ⟨rfl, rv⟩ .nil
  have he2 : ∃ z, g2.get? g.objs.size = some z := let ⟨z, _, _, e, _⟩ := hg2; ⟨z, e⟩
  have I7 := d_write (t' := s4.toks + 1) (ob := .dK [(kk, v')]) I6 (by rw [e2]; exact True.intro) sb2 he2 (dk_new (by show 1 ≤ sizeLine; decide) y4 one hg2)
  have e7 : (upd H3 g.objs.size (.dK [(kk, v')])) s.heap.objs.size = some (.dK kvs) := by rw [upd_ne np]; exact e1
  obtain ⟨z5, y5, w5, r5, dd5⟩ := dk_of I7.hok e7
  refine wpAny_bind (wpAny_onRaise (wpAny_holding (merge_wp np y4 dd5 hg2 (by rw [← r5.length]; simp [merged, stored]; omega) key_plain fun g3 hg3 sb3 => ?_)))
  have he3 : ∃ z, g3.get? s.heap.objs.size = some z := let ⟨z, _, _, e, _⟩ := hg3; ⟨z, e⟩
  have hl := length_putK kvs kk v'
  have I8 := d_write (t' := s4.toks + 1) (ob := .dK (putK kvs kk v')) I7 (by rw [e7]; exact True.intro) sb3 he3 (dk_new (by omega) y5 (r5.put kk rv) hg3)
  exact wpAny_pure ⟨.ref s.heap.objs.size, _, I8, rfl, q3⟩
end
end NW
namespace NW
open PySem PySem.Spec PyProof.Rows L2
/-! ### one row after the other -/
theorem FRow.uniq' {ks : List FRow} (nd : (ks.map (·.nm)).Nodup) {k k' : FRow} (m : k ∈ ks) (m' : k' ∈ ks) (e : k.nm = k'.nm) : k = k' := by
  induction ks with
  | nil => cases m
  | cons a r ih =>
    have nd' : a.nm ∉ r.map (·.nm) ∧ (r.map (·.nm)).Nodup := List.nodup_cons.mp nd
    rcases List.mem_cons.mp m with rfl | m1
    · rcases List.mem_cons.mp m' with rfl | m2
      · rfl
      · exact absurd (List.mem_map.mpr ⟨k', m2, e.symm⟩) nd'.1
    · rcases List.mem_cons.mp m' with rfl | m2
      · exact absurd (List.mem_map.mpr ⟨k, m1, e⟩) nd'.1
      · exact ih nd'.2 m1 m2
def faceHasB (fs : List FRow) (g fc : Str) : Bool := decide (∃ f ∈ fs, f.nm = fc ∧ g ∈ f.fds.map (·.1))
theorem passA {X : Cx} : Passes (L2N.CX X.prog X.w) X E0 := fun _ _ _ _ _ _ I c => by
  obtain ⟨_, _, _, _, _, _, _, _, _, _, _, _, _, _, _, _, z⟩ := L2N.XE.of_call (W := fun _ _ _ _ => False) I (fun _ _ _ h => h) c
  exact z.elim
theorem nd_len : ∀ {l m : List Str}, l.Nodup → (∀ x ∈ l, x ∈ m) → l.length ≤ m.length := by
  intro l
  induction l with
  | nil => intro m _ _; exact Nat.zero_le _
  | cons a r ih =>
    intro m nd h
    have nd' : a ∉ r ∧ r.Nodup := List.nodup_cons.mp nd
    have ha := h a List.mem_cons_self
    have := ih (m := m.erase a) nd'.2 fun x hx => (List.mem_erase_of_ne (fun e => nd'.1 (by rw [← e]; exact hx))).mpr (h x (List.mem_cons_of_mem _ hx))
    rw [List.length_erase_of_mem ha] at this
    have := List.length_pos_of_mem ha
    rw [List.length_cons]
    omega
theorem seqW {c : TT} {tb u : TS} {D : Ends} {σ : L2.St} {H : Hp} (h : tWhile c tb { D with nx := u D } σ H) : tSeq (tWhile c tb) u D σ H := h
theorem gNm {i : Nat} {x : V} {σ : L2.St} {H : Hp} {Q : L2.St → Hp → Prop} (h : Q (σ.set i (some x)) H) : gName i x σ H Q := h
def lenAt (H : Hp) (p : Addr) : Nat := match H p with
  | some (.lst xs) => xs.length
  | _ => 0
theorem lenAt_of {H : Hp} {p : Addr} {xs : List V} (h : H p = some (.lst xs)) : lenAt H p = xs.length := by unfold lenAt; rw [h]
theorem MemL.face {ks : List KRow} {fs : List FRow} {us : List URow} {root fc : Str} {l : List Str} (ok : SchOk ks fs us root) (hf : fc ∈ fs.map (·.nm)) (h : MemL ks us fc l) : ∀ b, b ∈ l ↔ HasFc ks fc b := by
  have nd := ok.nd
  unfold bsOf at nd
  have nd2 := (List.nodup_append.mp nd).2.1
  obtain ⟨_, nd3, dj⟩ := List.nodup_append.mp nd2
  have nk : fc ∉ ks.map (·.nm) := fun z => dj fc z fc (List.mem_append_left _ hf) rfl
  have nu : fc ∉ us.map (·.nm) := fun z => (List.nodup_append.mp nd3).2.2 fc hf fc z rfl
  obtain ⟨_, _, h | ⟨_, u, mu, eu, _⟩ | ⟨_, _, pm⟩⟩ := h
  · exact absurd h.1 nk
  · exact absurd (eu ▸ List.mem_map.mpr ⟨u, mu, rfl⟩) nu
  · intro b
    rw [pm.mem_iff, List.mem_map]
    constructor
    · rintro ⟨k, m, e⟩
      obtain ⟨m1, m2⟩ := List.mem_filter.mp m
      exact ⟨k, m1, e, of_decide_eq_true m2⟩
    · rintro ⟨k, m, e, c⟩
      exact ⟨k, List.mem_filter.mpr ⟨m, decide_eq_true c⟩, e⟩
theorem star_use {td : TE} {i j : Nat} {σ : L2.St} {H : Hp} {Q : VK} {o : Addr} {kvs : List (Key × V)} {k : Key} {v : V} (ho : H o = some (.dK kvs)) (few : kvs.length ≤ 1000) (hi : σ[i]? = some (some (kV k))) (hj : σ[j]? = some (some v))
    (htd : ∀ H1 (R : VK), Same H H1 → R (V.ref o) H1 → td σ H1 R) (q : ∀ p H', Same H H' → H p = none → H' p = some (.dK (putK kvs k v)) → Q (.ref p) H') : tStar1 td (tVar i) (tVar j) σ H Q := by
  intro p np
  have sa := same_new (o := .dK []) np
  have nop : o ≠ p := ne_of_none ho np
  refine htd _ _ sa ⟨o, kvs, rfl, nop, .inl (sa _ _ ho), upd_same, few, fun p2 np2 => ?_⟩
  have n2 : p2 ≠ p := fun e => by
    rw [e, upd_same] at np2
    cases np2
  have np2' : H p2 = none := by
    rw [upd_ne n2, upd_ne n2] at np2
    exact np2
  refine ⟨_, hi, _, hj, k, rfl, by rw [upd_ne (Ne.symm n2)]; exact upd_same, upd_same, q p _ (fun b u e => ?_) np upd_same⟩
  have nb := ne_of_none e np
  have nb2 := ne_of_none e np2'
  rw [upd_ne nb, upd_ne nb2, upd_ne nb2, upd_ne nb, upd_ne nb]
  exact e
def hitF (ks : List KRow) (fs : List FRow) (g z : Str) (fc : Str) : Prop := ∃ a, Lk ks fs g z a ∧ HasFc ks fc a
def setK (ks : List KRow) (r : KRow) : List KRow := ks.map fun k => if k.nm = r.nm then r else k
def setFr (fs : List FRow) (r : FRow) : List FRow := fs.map fun k => if k.nm = r.nm then r else k
section
variable {ks ks' ks2 : List KRow} {fs fs' fs2 : List FRow} {us us' : List URow} {g root : Str} {v : V} {sh : Shp} {S S' T T' : Str → Prop}
theorem kkv_set {r : KRow} (h : r.nm ∈ ks.map (·.nm)) : kkv (setK ks r) = putK (kkv ks) (Sum.inr r.nm) (.ref r.t) := by
  obtain ⟨y, m, e⟩ := List.mem_map.mp h
  have hany : ((kkv ks).any fun kv => decide (kv.1 = (Sum.inr r.nm : Key))) = true := List.any_eq_true.mpr ⟨(Sum.inr y.nm, .ref y.t), List.mem_map.mpr ⟨y, m, rfl⟩, decide_eq_true (by rw [e])⟩
  unfold putK
  rw [if_pos hany]
  unfold kkv setK
  rw [List.map_map, List.map_map]
  refine List.map_congr_left fun k _ => ?_
  show ((Sum.inr (if k.nm = r.nm then r else k).nm : Key), V.ref (if k.nm = r.nm then r else k).t) = if ((Sum.inr k.nm : Key), V.ref k.t).1 = Sum.inr r.nm then (((Sum.inr k.nm : Key), V.ref k.t).1, V.ref r.t) else ((Sum.inr k.nm : Key), V.ref k.t)
  by_cases e : k.nm = r.nm
  · rw [if_pos e, if_pos (by rw [e]), e]
  · rw [if_neg e, if_neg (fun z => e (Sum.inr.inj z))]
theorem fkvs_set {r : FRow} (h : r.nm ∈ fs.map (·.nm)) : fkvs (setFr fs r) = putK (fkvs fs) (Sum.inr r.nm) (.ref r.da) := by
  obtain ⟨y, m, e⟩ := List.mem_map.mp h
  have hany : ((fkvs fs).any fun kv => decide (kv.1 = (Sum.inr r.nm : Key))) = true := List.any_eq_true.mpr ⟨(Sum.inr y.nm, .ref y.da), List.mem_map.mpr ⟨y, m, rfl⟩, decide_eq_true (by rw [e])⟩
  unfold putK
  rw [if_pos hany]
  unfold fkvs setFr
  rw [List.map_map, List.map_map]
  refine List.map_congr_left fun k _ => ?_
  show ((Sum.inr (if k.nm = r.nm then r else k).nm : Key), V.ref (if k.nm = r.nm then r else k).da) = if ((Sum.inr k.nm : Key), V.ref k.da).1 = Sum.inr r.nm then (((Sum.inr k.nm : Key), V.ref k.da).1, V.ref r.da) else ((Sum.inr k.nm : Key), V.ref k.da)
  by_cases e : k.nm = r.nm
  · rw [if_pos e, if_pos (by rw [e]), e]
  · rw [if_neg e, if_neg (fun z => e (Sum.inr.inj z))]
theorem setK_mem {r k : KRow} (h : k ∈ setK ks r) : k = r ∨ k ∈ ks := by
  obtain ⟨y, m, e⟩ := List.mem_map.mp h
  by_cases hy : y.nm = r.nm
  · rw [if_pos hy] at e; exact .inl e.symm
  · rw [if_neg hy] at e; exact .inr (e ▸ m)
theorem setFr_mem {r k : FRow} (h : k ∈ setFr fs r) : k = r ∨ k ∈ fs := by
  obtain ⟨y, m, e⟩ := List.mem_map.mp h
  by_cases hy : y.nm = r.nm
  · rw [if_pos hy] at e; exact .inl e.symm
  · rw [if_neg hy] at e; exact .inr (e ▸ m)
theorem ReK.refl : ReK (fun _ => False) g v sh ks ks := ⟨rfl, fun i k k2 e e2 => by
  rw [e] at e2; cases e2
  exact ⟨rfl, rfl, fun z => z.elim, fun _ => rfl⟩⟩
theorem ReF.refl : ReF (fun _ => False) g v sh fs fs := ⟨rfl, fun i k k2 e e2 => by
  rw [e] at e2; cases e2
  exact ⟨rfl, fun z => z.elim, fun _ => rfl⟩⟩
theorem ReK.conv (h : ReK S g v sh ks ks2) (c : ∀ z, z ∈ ks.map (·.nm) → (S z ↔ S' z)) : ReK S' g v sh ks ks2 := ⟨h.1, fun i k k2 e e2 => by
  obtain ⟨a1, a2, a3, a4⟩ := h.2 i k k2 e e2
  have c' := c k.nm (List.mem_map.mpr ⟨k, List.mem_of_getElem? e, rfl⟩)
  exact ⟨a1, a2, fun z => a3 (c'.mpr z), fun z => a4 fun y => z (c'.mp y)⟩⟩
/-- where a face has not the field, it means nothing whether it is told -/
theorem ReF.conv (h : ReF T g v sh fs fs2) (c : ∀ z, FaceHas fs g z → (T z ↔ T' z)) : ReF T' g v sh fs fs2 := ⟨h.1, fun i f f2 e e2 => by
  obtain ⟨a1, a3, a4⟩ := h.2 i f f2 e e2
  refine ⟨a1, fun z => ?_, fun z => ?_⟩
  · by_cases hg : g ∈ f.fds.map (·.1)
    · exact a3 ((c f.nm ⟨f, List.mem_of_getElem? e, rfl, hg⟩).mpr z)
    · rw [putF_out hg]
      rcases Classical.em (T f.nm) with hT | hT
      · rw [a3 hT, putF_out hg]
      · exact a4 hT
  · by_cases hg : g ∈ f.fds.map (·.1)
    · exact a4 fun y => z ((c f.nm ⟨f, List.mem_of_getElem? e, rfl, hg⟩).mp y)
    · rcases Classical.em (T f.nm) with hT | hT
      · rw [a3 hT, putF_out hg]
      · exact a4 hT⟩
theorem ReK.set (nd : (ks.map (·.nm)).Nodup) (h : ReK S g v sh ks ks2) {k2 : KRow} (m : k2 ∈ ks2) (t da : Addr) : ReK (fun z => S z ∨ z = k2.nm) g v sh ks (setK ks2 { k2 with t := t, da := da, fds := putF k2.fds g v sh }) := by
  refine ⟨by unfold setK; rw [List.length_map]; exact h.1, fun i k k3 e e3 => ?_⟩
  unfold setK at e3
  rw [List.getElem?_map] at e3
  cases e2 : ks2[i]? with
  | none => rw [e2] at e3; cases e3
  | some kk =>
    rw [e2] at e3
    have e3' : (if kk.nm = k2.nm then ({ k2 with t := t, da := da, fds := putF k2.fds g v sh } : KRow) else kk) = k3 := by injection e3
    obtain ⟨a1, a2, a3, a4⟩ := h.2 i k kk e e2
    have nd2 : (ks2.map (·.nm)).Nodup := by rw [h.names]; exact nd
    by_cases hn : kk.nm = k2.nm
    · have := KRow.uniq' nd2 (List.mem_of_getElem? e2) m hn
      subst this
      rw [if_pos rfl] at e3'
      subst e3'
      refine ⟨a1, a2, fun _ => ?_, fun z => absurd (.inr a1.symm) z⟩
      show putF kk.fds g v sh = _
      rcases Classical.em (S k.nm) with hS | hS
      · rw [a3 hS, putF_idem]
      · rw [a4 hS]
    · rw [if_neg hn] at e3'
      subst e3'
      exact ⟨a1, a2, fun z => a3 (z.resolve_right fun y => hn (a1.trans y)), fun z => a4 fun y => z (.inl y)⟩
theorem ReF.set (nd : (fs.map (·.nm)).Nodup) (h : ReF T g v sh fs fs2) {k2 : FRow} (m : k2 ∈ fs2) (da : Addr) : ReF (fun z => T z ∨ z = k2.nm) g v sh fs (setFr fs2 { k2 with da := da, fds := putF k2.fds g v sh }) := by
  refine ⟨by unfold setFr; rw [List.length_map]; exact h.1, fun i k k3 e e3 => ?_⟩
  unfold setFr at e3
  rw [List.getElem?_map] at e3
  cases e2 : fs2[i]? with
  | none => rw [e2] at e3; cases e3
  | some kk =>
    rw [e2] at e3
    have e3' : (if kk.nm = k2.nm then ({ k2 with da := da, fds := putF k2.fds g v sh } : FRow) else kk) = k3 := by injection e3
    obtain ⟨a1, a3, a4⟩ := h.2 i k kk e e2
    have nd2 : (fs2.map (·.nm)).Nodup := by rw [h.names]; exact nd
    by_cases hn : kk.nm = k2.nm
    · have := FRow.uniq' nd2 (List.mem_of_getElem? e2) m hn
      subst this
      rw [if_pos rfl] at e3'
      subst e3'
      refine ⟨a1, fun _ => ?_, fun z => absurd (.inr a1.symm) z⟩
      show putF kk.fds g v sh = _
      rcases Classical.em (T k.nm) with hS | hS
      · rw [a3 hS, putF_idem]
      · rw [a4 hS]
    · rw [if_neg hn] at e3'
      subst e3'
      exact ⟨a1, fun z => a3 (z.resolve_right fun y => hn (a1.trans y)), fun z => a4 fun y => z (.inl y)⟩
/-! ### what is built is a schema as it should be -/
theorem RelU.back (h : RelU us us') {k' : URow} (m : k' ∈ us') : ∃ k ∈ us, k'.nm = k.nm ∧ k'.ms.Perm k.ms := by
  obtain ⟨i, hi⟩ := List.getElem?_of_mem m
  obtain ⟨b, eb⟩ := at_len h.1.symm hi
  obtain ⟨e1, e2, _⟩ := h.2 i b k' eb hi
  exact ⟨b, List.mem_of_getElem? eb, e1, e2⟩
theorem RelK.names' (h : RelK ks ks') : ks'.map (·.nm) = ks.map (·.nm) := map_rel h.1 fun i a b ea eb => (h.2 i a b ea eb).1
theorem RelF.names' (h : RelF fs fs') : fs'.map (·.nm) = fs.map (·.nm) := map_rel h.1 fun i a b ea eb => (h.2 i a b ea eb).1
theorem RelU.names' (h : RelU us us') : us'.map (·.nm) = us.map (·.nm) := map_rel h.1 fun i a b ea eb => (h.2 i a b ea eb).1
theorem rel_ok (ok : SchOk ks fs us root) (rk : RelK ks ks') (rf : RelF fs fs') (ru : RelU us us') : SchOk ks' fs' us' root := by
  have eb : bsOf ks' fs' us' = bsOf ks fs us := by unfold bsOf; rw [rk.names', rf.names', ru.names']
  refine ⟨by rw [rk.1]; exact ok.k0, by rw [rk.1]; exact ok.k1, by rw [rf.1]; exact ok.f1, by rw [ru.1]; exact ok.u1, by rw [eb]; exact ok.nd, fun k m => ?_, fun f m => ?_, fun u m => ?_, fun k m => ?_, fun k m => ?_, fun f m => ?_, fun f m => ?_, fun f mf k mk hc x mx => ?_, fun u m => ?_, by rw [rk.names']; exact ok.rt⟩
  · obtain ⟨k1, m1, e1, _⟩ := rk.back m
    exact e1 ▸ ok.nk k1 m1
  · obtain ⟨k1, m1, e1, _⟩ := rf.back m
    exact e1 ▸ ok.nf k1 m1
  · obtain ⟨k1, m1, e1, _⟩ := ru.back m
    exact e1 ▸ ok.nu k1 m1
  · obtain ⟨k1, m1, e1, e2, _⟩ := rk.back m
    obtain ⟨a1, a2, a3⟩ := ok.kf k1 m1
    rw [rf.names']
    exact ⟨e2.nodup_iff.mpr a1, fun z mz => a2 z (e2.mem_iff.mp mz), by rw [e2.length_eq]; exact a3⟩
  · obtain ⟨k1, m1, e1, e2, e3⟩ := rk.back m
    rw [eb, e3]
    exact ok.kd k1 m1
  · obtain ⟨k1, m1, e1, e3⟩ := rf.back m
    rw [eb, e3]
    exact ok.fd k1 m1
  · obtain ⟨f1, m1, e1, _⟩ := rf.back m
    obtain ⟨k1, mk1, hk⟩ := ok.fk f1 m1
    obtain ⟨k2, mk2, e2, e3, _⟩ := rk.fwd mk1
    exact ⟨k2, mk2, e3.mem_iff.mpr (by rw [e1]; exact hk)⟩
  · obtain ⟨f1, mf1, ef, e1⟩ := rf.back mf
    obtain ⟨k1, mk1, ek, ec, e2⟩ := rk.back mk
    rw [e1] at mx
    rw [e2]
    exact ok.ff f1 mf1 k1 mk1 (by rw [← ef]; exact ec.mem_iff.mp hc) x mx
  · obtain ⟨u1, m1, e1, e2⟩ := ru.back m
    obtain ⟨a1, a2, a3, a4⟩ := ok.ud u1 m1
    rw [rk.names']
    exact ⟨e2.nodup_iff.mpr a1, by rw [e2.length_eq]; exact a2, by rw [e2.length_eq]; exact a3, fun z mz => a4 z (e2.mem_iff.mp mz)⟩
theorem RelU.trans {us3 : List URow} (h : RelU us us') (h' : RelU us' us3) : RelU us us3 := ⟨h'.1.trans h.1, fun i a c ea ec => by
  obtain ⟨b, eb⟩ := at_len h.1 ea
  obtain ⟨a1, a2, _⟩ := h.2 i a b ea eb
  obtain ⟨b1, b2, b3⟩ := h'.2 i b c eb ec
  exact ⟨b1.trans a1, b2.trans a2, b3⟩⟩
theorem RelK.lk (hk : RelK ks ks') (hf : RelF fs fs') {z a : Str} : Lk ks' fs' g z a ↔ Lk ks fs g z a := by
  constructor
  · intro h
    induction h with
    | base => exact .base
    | step _ s ih =>
      obtain ⟨fc, c1, c2, c3⟩ := s
      exact ih.step ⟨fc, hk.hasFc.mp c1, hf.faceHas.mp c2, hk.hasFc.mp c3⟩
  · intro h
    induction h with
    | base => exact .base
    | step _ s ih =>
      obtain ⟨fc, c1, c2, c3⟩ := s
      exact ih.step ⟨fc, hk.hasFc.mpr c1, hf.faceHas.mpr c2, hk.hasFc.mpr c3⟩
/-! ### rows in a heap in which one dict changes -/
theorem FldAt.grD {b d : Addr} {H H' : Hp} {fds : List Fld} (hb : ∃ kvs, H b = some (.dK kvs)) (x : Gr b H H') (n : d ≠ b) (h : FldAt H d fds) : FldAt H' d fds := ⟨x _ _ n h.at_, fun f m => (h.sh f m).gr (xs := []) (.inr hb) x⟩
theorem KRow.At.grD {b : Addr} {H H' : Hp} {k : KRow} (hb : ∃ kvs, H b = some (.dK kvs)) (x : Gr b H H') (n : k.da ≠ b) (h : k.At H) : k.At H' := by
  obtain ⟨kvs, e⟩ := hb
  exact ⟨x _ _ (ne_of h.t e (by intro z; cases z)) h.t, x _ _ (ne_of h.f e (by intro z; cases z)) h.f, h.d.grD ⟨kvs, e⟩ x n⟩
theorem okS_bases {l m : List Str} (h : ∀ z, z ∈ l → z ∈ m) : ∀ {s : Shp} {n : Nat} {o : Bool}, okS l n o s → okS m n o s := by
  intro s
  induction s with
  | base z =>
    intro n o k
    cases n with
    | zero => exact h z k
    | succ n => exact h z k
  | sure s ih =>
    intro n o k
    cases n with
    | zero => exact k.elim
    | succ n => exact ⟨k.1, ih k.2⟩
  | list s ih =>
    intro n o k
    cases n with
    | zero => exact k.elim
    | succ n => exact ih (n := n) (o := false) k
end
end NW
namespace NW
open PySem PySem.Spec PyProof.Rows L2
open TL (tl)
open StX (pa_star)
theorem putK_new {kvs : List (Key × V)} {k : Key} {v : V} (h : k ∉ kvs.map (·.1)) : putK kvs k v = kvs ++ [(k, v)] := by
  unfold putK
  rw [if_neg fun z => by
    obtain ⟨x, m, e⟩ := List.any_eq_true.mp z
    exact h (List.mem_map.mpr ⟨x, m, of_decide_eq_true e⟩)]
/-- a copy of the rows: new dicts, of which each stands for itself -/
def CopK (ks ks2 : List KRow) : Prop := ks2.length = ks.length ∧ ∀ (i : Nat) (k r : KRow), ks[i]? = some k → ks2[i]? = some r → r.nm = k.nm ∧ r.fcs = k.fcs ∧ r.fds = k.fds
def CopF (fs fs2 : List FRow) : Prop := fs2.length = fs.length ∧ ∀ (i : Nat) (k r : FRow), fs[i]? = some k → fs2[i]? = some r → r.nm = k.nm ∧ r.fds = k.fds
structure OpenAt (H0 H : Hp) (kd fd ud : Addr) (ks : List KRow) (fs : List FRow) (us : List URow) (ks2 : List KRow) (fs2 : List FRow) : Prop where
  kk : H kd = some (.dK (kkv ks2))
  ff : H fd = some (.dK (fkvs fs2))
  uu : H ud = some (.dK (ukv us))
  nk : H0 kd = none
  nf : H0 fd = none
  kf : kd ≠ fd
  ku : ud ≠ kd ∧ ud ≠ fd
  nu : H0 ud = none
  ak : ∀ k ∈ ks2, k.At H ∧ H0 k.da = none ∧ k.da ≠ kd ∧ k.da ≠ fd ∧ k.da ≠ ud
  af : ∀ f ∈ fs2, FldAt H f.da f.fds ∧ H0 f.da = none ∧ f.da ≠ kd ∧ f.da ≠ fd ∧ f.da ≠ ud
  dk : (ks2.map (·.da)).Nodup
  df : (fs2.map (·.da)).Nodup
  dd : ∀ k ∈ ks2, ∀ f ∈ fs2, k.da ≠ f.da
  rk : CopK ks ks2
  rf : CopF fs fs2
section
variable {P : Program} {w : World} {K : PySem.W.Frag} {mg : Str → Option Value} {base : Heap}
end
end NW
namespace NW
open PySem PySem.Spec PyProof.Rows L2
open TL (tl)
open StX (pa_star)
section
variable {P : Program} {w : World} {K : PySem.W.Frag} {mg : Str → Option Value} {base : Heap}
def inB (l : List Str) (z : Str) : Bool := decide (z ∈ l)
end
end NW
namespace NW
open PySem PySem.Spec PyProof.Rows L2
open TL (tl)
open StX (pa_star)
theorem map_uniq {α β : Type} {l : List α} {f : α → β} (nd : (l.map f).Nodup) {a b : α} (m : a ∈ l) (m' : b ∈ l) (e : f a = f b) : a = b := by
  induction l with
  | nil => cases m
  | cons x r ih =>
    have nd' : f x ∉ r.map f ∧ (r.map f).Nodup := List.nodup_cons.mp nd
    rcases List.mem_cons.mp m with rfl | m1
    · rcases List.mem_cons.mp m' with rfl | m2
      · rfl
      · exact absurd (List.mem_map.mpr ⟨b, m2, e.symm⟩) nd'.1
    · rcases List.mem_cons.mp m' with rfl | m2
      · exact absurd (List.mem_map.mpr ⟨a, m1, e⟩) nd'.1
      · exact ih nd'.2 m1 m2
theorem setK_map {β : Type} {ks : List KRow} {r : KRow} {F : KRow → β} (h : ∀ k ∈ ks, k.nm = r.nm → F r = F k) : (setK ks r).map F = ks.map F := by
  unfold setK
  rw [List.map_map]
  refine List.map_congr_left fun k m => ?_
  show F (if k.nm = r.nm then r else k) = F k
  by_cases e : k.nm = r.nm
  · rw [if_pos e]; exact h k m e
  · rw [if_neg e]
theorem setFr_map {β : Type} {ks : List FRow} {r : FRow} {F : FRow → β} (h : ∀ k ∈ ks, k.nm = r.nm → F r = F k) : (setFr ks r).map F = ks.map F := by
  unfold setFr
  rw [List.map_map]
  refine List.map_congr_left fun k m => ?_
  show F (if k.nm = r.nm then r else k) = F k
  by_cases e : k.nm = r.nm
  · rw [if_pos e]; exact h k m e
  · rw [if_neg e]
theorem setK_mem' {ks : List KRow} {r k : KRow} (h : k ∈ setK ks r) : k = r ∨ (k ∈ ks ∧ k.nm ≠ r.nm) := by
  obtain ⟨y, m, e⟩ := List.mem_map.mp h
  by_cases hy : y.nm = r.nm
  · rw [if_pos hy] at e; exact .inl e.symm
  · rw [if_neg hy] at e; exact .inr (e ▸ ⟨m, hy⟩)
theorem setFr_mem' {ks : List FRow} {r k : FRow} (h : k ∈ setFr ks r) : k = r ∨ (k ∈ ks ∧ k.nm ≠ r.nm) := by
  obtain ⟨y, m, e⟩ := List.mem_map.mp h
  by_cases hy : y.nm = r.nm
  · rw [if_pos hy] at e; exact .inl e.symm
  · rw [if_neg hy] at e; exact .inr (e ▸ ⟨m, hy⟩)
/-- the copied rows, behind some changes -/
structure RowsAt (H0 H : Hp) (kd fd ud : Addr) (ks : List KRow) (fs : List FRow) (us : List URow) : Prop where
  kk : H kd = some (.dK (kkv ks))
  ff : H fd = some (.dK (fkvs fs))
  uu : H ud = some (.dK (ukv us))
  ak : ∀ k ∈ ks, k.At H ∧ H0 k.da = none ∧ k.da ≠ kd ∧ k.da ≠ fd ∧ k.da ≠ ud
  af : ∀ f ∈ fs, FldAt H f.da f.fds ∧ H0 f.da = none ∧ f.da ≠ kd ∧ f.da ≠ fd ∧ f.da ≠ ud
  dk : (ks.map (·.da)).Nodup
  df : (fs.map (·.da)).Nodup
  dd : ∀ k ∈ ks, ∀ f ∈ fs, k.da ≠ f.da
section
variable {ks ks2 : List KRow} {fs fs2 : List FRow} {us : List URow} {g : Str} {v : V} {sh : Shp} {H0 H H' : Hp} {kd fd ud : Addr}
theorem OpenAt.rows (O : OpenAt H0 H kd fd ud ks fs us ks2 fs2) : RowsAt H0 H kd fd ud ks2 fs2 us := ⟨O.kk, O.ff, O.uu, O.ak, O.af, O.dk, O.df, O.dd⟩
theorem OpenAt.reK (O : OpenAt H0 H kd fd ud ks fs us ks2 fs2) : ReK (fun _ => False) g v sh ks ks2 := ⟨O.rk.1, fun i k k2 e e2 => by
  obtain ⟨a, b, c⟩ := O.rk.2 i k k2 e e2
  exact ⟨a, b, fun z => z.elim, fun _ => c⟩⟩
theorem OpenAt.reF (O : OpenAt H0 H kd fd ud ks fs us ks2 fs2) : ReF (fun _ => False) g v sh fs fs2 := ⟨O.rf.1, fun i k k2 e e2 => by
  obtain ⟨a, c⟩ := O.rf.2 i k k2 e e2
  exact ⟨a, fun z => z.elim, fun _ => c⟩⟩
theorem RowsAt.same (R : RowsAt H0 H kd fd ud ks fs us) (s : Same H H') : RowsAt H0 H' kd fd ud ks fs us :=
  ⟨s _ _ R.kk, s _ _ R.ff, s _ _ R.uu, fun k m => ⟨(R.ak k m).1.same s, (R.ak k m).2⟩, fun k m => ⟨(R.af k m).1.same s, (R.af k m).2⟩, R.dk, R.df, R.dd⟩
theorem put_sh (hv : ShAt H v sh) {fds : List Fld} (h : ∀ f ∈ fds, ShAt H f.2.1 f.2.2) : ∀ f ∈ putF fds g v sh, ShAt H f.2.1 f.2.2 := fun f m => by
  rcases putF_mem m with ⟨_, _, _, rfl⟩ | ⟨m2, _⟩
  · exact hv
  · exact h f m2
theorem RowsAt.putK (R : RowsAt H0 H kd fd ud ks fs us) (nd : (ks.map (·.nm)).Nodup) {k : KRow} (m : k ∈ ks) (hv : ShAt H v sh) :
    RowsAt H0 (upd H k.da (.dK (fkv (putF k.fds g v sh)))) kd fd ud (setK ks { k with t := k.t, da := k.da, fds := putF k.fds g v sh }) fs us := by
  obtain ⟨ka, k0, n1, n2, n3⟩ := R.ak k m
  have hb : ∃ kvs, H k.da = some (.dK kvs) := ⟨_, ka.d.at_⟩
  have g1 : Gr k.da H (upd H k.da (.dK (fkv (putF k.fds g v sh)))) := Gr.box
  have one : ∀ k' ∈ ks, k'.nm = k.nm → k' = k := fun k' m' e => KRow.uniq' nd m' m e
  refine ⟨?_, by rw [upd_ne n2.symm]; exact R.ff, by rw [upd_ne n3.symm]; exact R.uu, fun k' m' => ?_, fun f mf => ?_, ?_, R.df, fun k' m' f mf => ?_⟩
  · rw [upd_ne n1.symm, R.kk]
    refine congrArg (fun z => some (HO.dK z)) (setK_map (F := fun k : KRow => ((Sum.inr k.nm : Key), V.ref k.t)) fun k' m' e => ?_).symm
    rw [one k' m' e]
  · rcases setK_mem' m' with rfl | ⟨m2, hn⟩
    · refine ⟨⟨g1 _ _ (ne_of ka.t ka.d.at_ (by intro z; cases z)) ka.t, g1 _ _ (ne_of ka.f ka.d.at_ (by intro z; cases z)) ka.f, upd_same, put_sh (hv.gr (xs := []) (.inr hb) g1) fun f mf => (ka.d.sh f mf).gr (xs := []) (.inr hb) g1⟩, k0, n1, n2, n3⟩
    · obtain ⟨a1, a2⟩ := R.ak k' m2
      exact ⟨a1.grD hb g1 (fun e => hn (by rw [map_uniq R.dk m2 m e])), a2⟩
  · obtain ⟨a1, a2⟩ := R.af f mf
    exact ⟨a1.grD hb g1 (R.dd k m f mf).symm, a2⟩
  · rw [setK_map (F := fun k : KRow => k.da) fun k' m' e => by rw [one k' m' e]]
    exact R.dk
  · rcases setK_mem' m' with rfl | ⟨m2, _⟩
    · exact R.dd k m f mf
    · exact R.dd k' m2 f mf
theorem RowsAt.putF (R : RowsAt H0 H kd fd ud ks fs us) (nd : (fs.map (·.nm)).Nodup) {k : FRow} (m : k ∈ fs) (hv : ShAt H v sh) :
    RowsAt H0 (upd H k.da (.dK (fkv (NW.putF k.fds g v sh)))) kd fd ud ks (setFr fs { k with da := k.da, fds := NW.putF k.fds g v sh }) us := by
  obtain ⟨ka, k0, n1, n2, n3⟩ := R.af k m
  have hb : ∃ kvs, H k.da = some (.dK kvs) := ⟨_, ka.at_⟩
  have g1 : Gr k.da H (upd H k.da (.dK (fkv (NW.putF k.fds g v sh)))) := Gr.box
  have one : ∀ k' ∈ fs, k'.nm = k.nm → k' = k := fun k' m' e => FRow.uniq' nd m' m e
  refine ⟨by rw [upd_ne n1.symm]; exact R.kk, ?_, by rw [upd_ne n3.symm]; exact R.uu, fun f mf => ?_, fun k' m' => ?_, R.dk, ?_, fun f mf k' m' => ?_⟩
  · rw [upd_ne n2.symm, R.ff]
    refine congrArg (fun z => some (HO.dK z)) (setFr_map (F := fun k : FRow => ((Sum.inr k.nm : Key), V.ref k.da)) fun k' m' e => ?_).symm
    rw [one k' m' e]
  · obtain ⟨a1, a2⟩ := R.ak f mf
    exact ⟨a1.grD hb g1 (R.dd f mf k m), a2⟩
  · rcases setFr_mem' m' with rfl | ⟨m2, hn⟩
    · exact ⟨⟨upd_same, put_sh (hv.gr (xs := []) (.inr hb) g1) fun f mf => (ka.sh f mf).gr (xs := []) (.inr hb) g1⟩, k0, n1, n2, n3⟩
    · obtain ⟨a1, a2⟩ := R.af k' m2
      exact ⟨a1.grD hb g1 (fun e => hn (by rw [map_uniq R.df m2 m e])), a2⟩
  · rw [setFr_map (F := fun k : FRow => k.da) fun k' m' e => by rw [one k' m' e]]
    exact R.df
  · rcases setFr_mem' m' with rfl | ⟨m2, _⟩
    · exact R.dd f mf k m
    · exact R.dd f mf k' m2
theorem ReK.fnames {S : Str → Prop} (h : ReK S g v sh ks ks2) {k2 : KRow} (m : k2 ∈ ks2) : ∃ k ∈ ks, k2.nm = k.nm ∧ k2.fds.map (·.1) = k.fds.map (·.1) := by
  obtain ⟨k, mk, e, _, h1, h2⟩ := h.back m
  refine ⟨k, mk, e, ?_⟩
  rcases Classical.em (S k.nm) with hS | hS
  · rw [h1 hS, putF_names]
  · rw [h2 hS]
theorem ReF.fnames {S : Str → Prop} (h : ReF S g v sh fs fs2) {k2 : FRow} (m : k2 ∈ fs2) : ∃ k ∈ fs, k2.nm = k.nm ∧ k2.fds.map (·.1) = k.fds.map (·.1) := by
  obtain ⟨k, mk, e, h1, h2⟩ := h.back m
  refine ⟨k, mk, e, ?_⟩
  rcases Classical.em (S k.nm) with hS | hS
  · rw [h1 hS, putF_names]
  · rw [h2 hS]
theorem fkv_has {fds : List Fld} (nd : (fds.map (·.1)).Nodup) : (valV (fkv fds) (Sum.inr g)).isSome = decide (g ∈ fds.map (·.1)) := by
  by_cases hg : g ∈ fds.map (·.1)
  · obtain ⟨y, my, rfl⟩ := List.mem_map.mp hg
    have := valV_map (f := fun f : Fld => f.1) (g := fun f => f.2.1) nd my
    rw [decide_eq_true hg]
    show (valV (fds.map fun a => ((Sum.inr a.1 : Key), a.2.1)) (Sum.inr y.1)).isSome = true
    rw [this]
    rfl
  · rw [decide_eq_false hg]
    have := valV_out (l := fds) (f := fun f : Fld => f.1) (g := fun f => f.2.1) hg
    show (valV (fds.map fun a => ((Sum.inr a.1 : Key), a.2.1)) (Sum.inr g)).isSome = false
    rw [this]
    rfl
end
section
variable {P : Program} {w : World} {K : PySem.W.Frag} {mg : Str → Option Value} {base : Heap}
end
end NW
namespace NW
open PySem PySem.Spec PyProof.Rows L2
def Shp.dep : Shp → Nat
  | .base _ => 0
  | .sure s => s.dep + 1
  | .list s => s.dep + 1
theorem okS_dep {l : List Str} : ∀ {s : Shp} {n : Nat} {o : Bool}, okS l n o s → s.dep ≤ n := by
  intro s
  induction s with
  | base z => intro n o _; exact Nat.zero_le _
  | sure s ih =>
    intro n o h
    cases n with
    | zero => exact h.elim
    | succ n => exact Nat.succ_le_succ (ih h.2)
  | list s ih =>
    intro n o h
    cases n with
    | zero => exact h.elim
    | succ n => exact Nat.succ_le_succ (ih (show okS l n false s from h))
theorem FdsOf.ok {ks : List KRow} {fs : List FRow} {us : List URow} {root z : Str} {fds : List Fld} {fl : Fld} (ok : SchOk ks fs us root) (h : FdsOf ks fs z fds) (m : fl ∈ fds) : okS (bsOf ks fs us) 4 false fl.2.2 := by
  rcases h with ⟨k, mk, _, rfl⟩ | ⟨_, f, mf, _, rfl⟩ | ⟨_, _, rfl⟩
  · exact (ok.kd k mk).sh fl m
  · exact (ok.fd f mf).sh fl m
  · cases m
/-- the same data, m deep, as itself -/
theorem SameV.le {H : Hp} {x y : V} : ∀ {n m : Nat}, n ≤ m → SameV n H x y → SameV m H x y := by
  intro n m h s
  induction m with
  | zero => rw [show n = 0 by omega] at s; exact s
  | succ m ih =>
    by_cases e : n = m + 1
    · rw [e] at s; exact s
    · exact (ih (by omega)).up
theorem ShAt.self {H : Hp} : ∀ {s : Shp} {v : V}, ShAt H v s → SameV s.dep H v v := by
  intro s
  induction s with
  | base z => rintro v rfl; exact ⟨rfl, .inr (.inr (.inr ⟨z, rfl⟩))⟩
  | sure s ih =>
    rintro v ⟨a, u, rfl, ha, hu⟩
    refine .inr (.inl ⟨a, a, _, _, rfl, rfl, .inr ⟨ha, ha⟩, rfl, by show 2 ≤ 1000; decide, fun i x y ex ey => ?_⟩)
    rw [ex] at ey
    cases ey
    match i, ex with
    | 0, ex => cases ex; exact SameV.le (Nat.zero_le _) ⟨rfl, .inr (.inr (.inr ⟨_, rfl⟩))⟩
    | 1, ex => cases ex; exact ih hu
    | i + 2, ex => cases ex
  | list s ih =>
    rintro v ⟨a, u, rfl, ha, hu⟩
    refine .inr (.inl ⟨a, a, _, _, rfl, rfl, .inr ⟨ha, ha⟩, rfl, by show 2 ≤ 1000; decide, fun i x y ex ey => ?_⟩)
    rw [ex] at ey
    cases ey
    match i, ex with
    | 0, ex => cases ex; exact SameV.le (Nat.zero_le _) ⟨rfl, .inr (.inr (.inr ⟨_, rfl⟩))⟩
    | 1, ex => cases ex; exact ih hu
    | i + 2, ex => cases ex
theorem SameV.strV {H : Hp} {n : Nat} {z : Str} : SameV n H (.str z) (.str z) := SameV.le (Nat.zero_le n) ⟨rfl, .inr (.inr (.inr ⟨z, rfl⟩))⟩
theorem SameV.blV {H : Hp} {n : Nat} {b : Bool} : SameV n H (.bl b) (.bl b) := SameV.le (Nat.zero_le n) ⟨rfl, .inr (.inl ⟨b, rfl⟩)⟩
/-- two lists of tuples that hold the same -/
theorem SameV.tups {H : Hp} {n : Nat} {a b : Addr} {ps qs : List Addr} {T : Nat → List V} (ha : H a = some (.lst (ps.map V.ref))) (hb : H b = some (.lst (qs.map V.ref))) (hl : ps.length = qs.length) (few : qs.length ≤ 1000)
    (hp : ∀ (i : Nat) p, ps[i]? = some p → H p = some (.tup (T i))) (hq : ∀ (i : Nat) p, qs[i]? = some p → H p = some (.tup (T i))) (ht : ∀ i, i < qs.length → (T i).length ≤ 1000 ∧ ∀ v ∈ T i, SameV n H v v) : SameV (n + 2) H (.ref a) (.ref b) := by
  refine .inr (.inl ⟨a, b, _, _, rfl, rfl, .inl ⟨ha, hb⟩, by rw [List.length_map, List.length_map, hl], by rw [List.length_map]; exact few, fun i u v eu ev => ?_⟩)
  rw [List.getElem?_map] at eu ev
  cases ep : ps[i]? with
  | none => rw [ep] at eu; cases eu
  | some p =>
    cases eq : qs[i]? with
    | none => rw [eq] at ev; cases ev
    | some q =>
      rw [ep] at eu
      rw [eq] at ev
      cases eu
      cases ev
      have hi : i < qs.length := (List.getElem?_eq_some_iff.mp eq).1
      refine .inr (.inl ⟨p, q, _, _, rfl, rfl, .inr ⟨hp i p ep, hq i q eq⟩, rfl, (ht i hi).1, fun k x y ex ey => ?_⟩)
      rw [ex] at ey
      cases ey
      exact (ht i hi).2 x (List.mem_of_getElem? ex)
theorem KRow.uniq {ks : List KRow} (nd : (ks.map (·.nm)).Nodup) {k k' : KRow} (m : k ∈ ks) (m' : k' ∈ ks) (e : k.nm = k'.nm) : k = k' := by
  induction ks with
  | nil => cases m
  | cons a r ih =>
    have nd' : a.nm ∉ r.map (·.nm) ∧ (r.map (·.nm)).Nodup := List.nodup_cons.mp nd
    rcases List.mem_cons.mp m with rfl | m1
    · rcases List.mem_cons.mp m' with rfl | m2
      · rfl
      · exact absurd (List.mem_map.mpr ⟨k', m2, e.symm⟩) nd'.1
    · rcases List.mem_cons.mp m' with rfl | m2
      · exact absurd (List.mem_map.mpr ⟨k, m1, e⟩) nd'.1
      · exact ih nd'.2 m1 m2
theorem FRow.uniq {ks : List FRow} (nd : (ks.map (·.nm)).Nodup) {k k' : FRow} (m : k ∈ ks) (m' : k' ∈ ks) (e : k.nm = k'.nm) : k = k' := by
  induction ks with
  | nil => cases m
  | cons a r ih =>
    have nd' : a.nm ∉ r.map (·.nm) ∧ (r.map (·.nm)).Nodup := List.nodup_cons.mp nd
    rcases List.mem_cons.mp m with rfl | m1
    · rcases List.mem_cons.mp m' with rfl | m2
      · rfl
      · exact absurd (List.mem_map.mpr ⟨k', m2, e.symm⟩) nd'.1
    · rcases List.mem_cons.mp m' with rfl | m2
      · exact absurd (List.mem_map.mpr ⟨k, m1, e⟩) nd'.1
      · exact ih nd'.2 m1 m2
theorem FdsOf.uniq {ks : List KRow} {fs : List FRow} {us : List URow} {root z : Str} {fds fds' : List Fld} (ok : SchOk ks fs us root) (h : FdsOf ks fs z fds) (h' : FdsOf ks fs z fds') : fds = fds' := by
  rcases h with ⟨k, m, e, rfl⟩ | ⟨n, f, m, e, rfl⟩ | ⟨n1, n2, rfl⟩
  · rcases h' with ⟨k', m', e', rfl⟩ | ⟨n', _⟩ | ⟨n', _⟩
    · rw [KRow.uniq ok.ndk m m' (e.trans e'.symm)]
    · exact absurd (e ▸ List.mem_map.mpr ⟨k, m, rfl⟩) n'
    · exact absurd (e ▸ List.mem_map.mpr ⟨k, m, rfl⟩) n'
  · rcases h' with ⟨k', m', e', rfl⟩ | ⟨_, f', m', e', rfl⟩ | ⟨_, n2', _⟩
    · exact absurd (e' ▸ List.mem_map.mpr ⟨k', m', rfl⟩) n
    · rw [FRow.uniq ok.ndf m m' (e.trans e'.symm)]
    · exact absurd (e ▸ List.mem_map.mpr ⟨f, m, rfl⟩) n2'
  · rcases h' with ⟨k', m', e', rfl⟩ | ⟨_, f', m', e', rfl⟩ | ⟨_, _, rfl⟩
    · exact absurd (e' ▸ List.mem_map.mpr ⟨k', m', rfl⟩) n1
    · exact absurd (e' ▸ List.mem_map.mpr ⟨f', m', rfl⟩) n2
    · rfl
end NW
namespace NW
open PySem PySem.Spec PyProof.Rows L2
open TL (tl)
open StX (pa_star)
abbrev s_Lshows : Stmt := topS 60
abbrev N_Lshows : List Str := ["_law_built", "_law_schema_here", "_law_base", "_law_table_here", "_law_field"]
theorem sc_Lshows : FnScope N_Lshows ["_law_built", "_law_schema_here"] (defScope s_Lshows) := ⟨rfl, rfl, rfl, by decide +kernel, rfl, by decide +kernel, by decide +kernel⟩
section
variable {P : Program} {w : World} {K : PySem.W.Frag} {mg : Str → Option Value} {base : Heap}
def spLshows (C : Addr) : Sp := fun vs H Q _ => ∃ (x q kt ft ut : Addr) (ks : List KRow) (fs : List FRow) (us : List URow) (root : Str), vs = [.ref x, .ref q] ∧ BuiltAt C H x ks fs us root ∧ SchT H q kt ft ut ks fs us root ∧ ∀ H', Same H H' → Q (.bl true) H'
theorem ok_Lshows {f f1 f2 f3 f4 f5 f6 f7 f8 f9 f10 C CN CF : Addr} {fd fd1 fd2 fd3 fd4 fd5 fd6 fd7 fd8 fd9 fd10 : FuncData} (D : Df K mg "_law_shows" s_Lshows f fd ["_law_built", "_law_schema_here"])
    (D_Lsame : Df K mg "_law_same" s_Lsame f1 fd1 ["_law_one", "_law_other"]) (G_Lsame : FnOk P w K mg base CX0 5 f1 fd1 ["_law_one", "_law_other"] (spLsame 4))
    (M_kinds : Mt K C "kinds" "Schema.kinds" s_Schema_kinds f2 fd2 ["self"]) (G_kinds : FnOk P w K mg base CX0 1 f2 fd2 ["self"] (sp_kinds C))
    (M_faces : Mt K C "faces" "Schema.faces" s_Schema_faces f3 fd3 ["self"]) (G_faces : FnOk P w K mg base CX0 1 f3 fd3 ["self"] (sp_faces C))
    (M_unions : Mt K C "unions" "Schema.unions" s_Schema_unions f4 fd4 ["self"]) (G_unions : FnOk P w K mg base CX0 1 f4 fd4 ["self"] (sp_unions C))
    (D_Lbases : Df K mg "_law_bases" s_Lbases f5 fd5 ["_law_schema_here"]) (G_Lbases : FnOk P w K mg base CX0 1 f5 fd5 ["_law_schema_here"] spLbases)
    (M_members : Mt K C "members" "Schema.members" s_Schema_members f6 fd6 ["self", "base"]) (G_members : FnOk P w K mg base (L2N.CX P w) 4 f6 fd6 ["self", "base"] (spMembers K C CN))
    (D_Lmembers : Df K mg "_law_members" s_Lmembers f7 fd7 ["_law_schema_here", "_law_base"]) (G_Lmembers : FnOk P w K mg base CX0 1 f7 fd7 ["_law_schema_here", "_law_base"] spLmembers)
    (D_Ltable : Df K mg "_law_table" s_Ltable f8 fd8 ["_law_schema_here", "_law_base"]) (G_Ltable : FnOk P w K mg base CX0 1 f8 fd8 ["_law_schema_here", "_law_base"] spLtable)
    (M_fields : Mt K C "fields" "Schema.fields" s_Schema_fields f9 fd9 ["self", "base"]) (G_fields : FnOk P w K mg base (L2N.CX P w) 5 f9 fd9 ["self", "base"] (spFields K C CN))
    (M_shape_of : Mt K C "shape_of" "Schema.shape_of" s_Schema_shape_of f10 fd10 ["self", "base", "field"]) (G_shape_of : FnOk P w K mg base (L2N.CX P w) 5 f10 fd10 ["self", "base", "field"] (spShapeOf K C CN CF))
    (T : Nms mg) (L : ClT K C) : FnOk P w K mg base CX0 6 f fd ["_law_built", "_law_schema_here"] (spLshows C) := by
  refine D.F.ok sc_Lshows (fun vs H Q E h => ?_) (fun cdv A outer s H vs Q E hr h => ?_)
  · obtain ⟨x, q, kt, ft, ut, ks, fs, us, root, rfl, _⟩ := h
    rfl
  · obtain ⟨x, q0, kt, ft, ut, ks, fs, us, root, rfl, Bt, ⟨hq, S, ok⟩, qq⟩ := h
    have hu := hu_of hr
    refine ⟨_, (pss_cons (ps_if (pt_not (pt_val (pe_call G_Lsame (hr.mono (by decide)) (by rfl) D_Lsame.g D_Lsame.F.kp D_Lsame.b .nil pass0 (pa_cons (pe_lst (pa_cons (pe_meth0 (pv 0) L.cl M_kinds.m G_kinds (hr.mono (by decide)) M_kinds.b .nil pass0) (pa_cons (pe_meth0 (pv 0) L.cl M_faces.m G_faces (hr.mono (by decide)) M_faces.b .nil pass0) pa_nil))) (pa_cons (pe_lst (pa_cons (pe_callB (call_sortedD rfl) (by rfl) T.n_sorted (by decide +kernel) (pa_cons (pe_ix ix_tup (pv 1) pe_int (fun _ _ => rfl)) pa_nil)) (pa_cons (pe_callB (call_sortedD rfl) (by rfl) T.n_sorted (by decide +kernel) (pa_cons (pe_ix ix_tup (pv 1) pe_int (fun _ _ => rfl)) pa_nil)) pa_nil))) pa_nil)))))
       (pss_one (ps_ret pe_bl))
       pss_nil)
      (pss_cons (ps_if (PW.pt (pw_or (pt_not (pt_val (pe_call G_Lsame (hr.mono (by decide)) (by rfl) D_Lsame.g D_Lsame.F.kp D_Lsame.b .nil pass0 (pa_cons (pe_meth0 (pv 0) L.cl M_unions.m G_unions (hr.mono (by decide)) M_unions.b .nil pass0) (pa_cons (pe_callB (call_sortedD rfl) (by rfl) T.n_sorted (by decide +kernel) (pa_cons (pe_ix ix_tup (pv 1) pe_int (fun _ _ => rfl)) pa_nil)) pa_nil))))) (pw_or1 (pt_not (pt_val (pe_call G_Lsame (hr.mono (by decide)) (by rfl) D_Lsame.g D_Lsame.F.kp D_Lsame.b .nil pass0 (pa_cons (pe_fld (pv 0) rfl) (pa_cons (pe_ix ix_tup (pv 1) pe_int (fun _ _ => rfl)) pa_nil))))))))
       (pss_one (ps_ret pe_bl))
       pss_nil)
      (pss_cons (ps_for PassesOwn.never rfl (pi_list (pe_call G_Lbases (hr.mono (by decide)) (by rfl) D_Lbases.g D_Lbases.F.kp D_Lbases.b .nil pass0 (pa_cons (pv 1) pa_nil))) (pg_name (i := 2) sc_Lshows.nd rfl (.inl rfl))
       (pss_cons (ps_if (pt_not (pt_val (pe_call G_Lsame (hr.mono (by decide)) (by rfl) D_Lsame.g D_Lsame.F.kp D_Lsame.b .nil pass0 (pa_cons (pe_meth (pv 0) L.cl M_members.m G_members (hr.mono (by decide)) M_members.b .nil passA (pa_cons (pv 2) pa_nil)) (pa_cons (pe_call G_Lmembers (hr.mono (by decide)) (by rfl) D_Lmembers.g D_Lmembers.F.kp D_Lmembers.b .nil pass0 (pa_cons (pv 1) (pa_cons (pv 2) pa_nil))) pa_nil)))))
         (pss_one (ps_ret pe_bl))
         pss_nil)
        (pss_cons (ps_set (i := 3) sc_Lshows.nd rfl (.inl rfl) (pe_call G_Ltable (hr.mono (by decide)) (by rfl) D_Ltable.g D_Ltable.F.kp D_Ltable.b .nil pass0 (pa_cons (pv 1) (pa_cons (pv 2) pa_nil))))
        (pss_cons (ps_if (pt_not (pt_val (pe_call G_Lsame (hr.mono (by decide)) (by rfl) D_Lsame.g D_Lsame.F.kp D_Lsame.b .nil pass0 (pa_cons (pe_meth (pv 0) L.cl M_fields.m G_fields (hr.mono (by decide)) M_fields.b .nil passA (pa_cons (pv 2) pa_nil)) (pa_cons (pe_callB (call_sortedD rfl) (by rfl) T.n_sorted (by decide +kernel) (pa_cons (pv 3) pa_nil)) pa_nil)))))
         (pss_one (ps_ret pe_bl))
         pss_nil)
        (pss_one (ps_for PassesOwn.never rfl (pi_list (pe_callB (call_sortedD rfl) (by rfl) T.n_sorted (by decide +kernel) (pa_cons (pv 3) pa_nil))) (pg_name (i := 4) sc_Lshows.nd rfl (.inl rfl))
         (pss_one (ps_if (pt_not (pt_val (pe_call G_Lsame (hr.mono (by decide)) (by rfl) D_Lsame.g D_Lsame.F.kp D_Lsame.b .nil pass0 (pa_cons (pe_meth (pv 0) L.cl M_shape_of.m G_shape_of (hr.mono (by decide)) M_shape_of.b .nil passA (pa_cons (pv 2) (pa_cons (pv 4) pa_nil))) (pa_cons (pe_dget hu (pv 3) (pv 4) (fun _ _ => rfl)) pa_nil)))))
           (pss_one (ps_ret pe_bl))
           pss_nil))))))))
      (pss_one (ps_ret pe_bl))))), ?_⟩
    have hS : ∀ n : Nat, n ≤ 1000 → n ≤ sizeLine := fun n h => Nat.le_trans h (by decide)
    have k1 := ok.k1
    have f1' := ok.f1
    have u1 := ok.u1
    have BtA : ∀ {H2 : Hp}, Same H H2 → BuiltAt C H2 x ks fs us root := fun s => Bt.same s
    have STA : ∀ {H2 : Hp}, Same H H2 → SchT H2 q0 kt ft ut ks fs us root := fun s => ⟨s _ _ hq, S.same s, ok⟩
    have insx : ∀ H', Same H H' → ∃ dx kt' ft' ut', H' x = some (.ins C dx (pfs kt' ft' ut' root)) := fun H' s => by
      obtain ⟨dx, kt', ft', ut', _, _, _, hx, _⟩ := Bt
      exact ⟨dx, kt', ft', ut', s _ _ hx⟩
    have sz : ∀ H', Same H H' → SqT K H' q0 [.ref kt, .ref ft, .ref ut, .str root] := fun H' s => .inl (.inl (s _ _ hq))
    have s00 : Same H H := fun _ _ e => e
    obtain ⟨dx, kt', ft', ut', hx⟩ := insx H s00
    -- [built.kinds(), built.faces()]
    refine ⟨.ref x, rfl, x, dx, _, rfl, hx, lkn _ _ _ _ (by decide +kernel) (by decide +kernel) (by decide +kernel) (by decide +kernel), x, ks, fs, us, root, rfl, Bt, k1, f1', u1, fun ys1 p1 Ha pm1 so1 sa na ea => ?_⟩
    refine ⟨.ref x, rfl, x, dx, _, rfl, sa _ _ hx, lkn _ _ _ _ (by decide +kernel) (by decide +kernel) (by decide +kernel) (by decide +kernel), x, ks, fs, us, root, rfl, BtA sa, k1, f1', u1, fun ys2 p2 Hb pm2 so2 sb nb' eb => ⟨hS 2 (by decide), fun pg npg => ?_⟩⟩
    have sHb := sa.trans sb
    have sd := same_new (o := .lst [.ref p1, .ref p2]) npg
    have sHd := sHb.trans sd
    have e1 := sd _ _ (sb _ _ ea)
    have e2 := sd _ _ eb
    have eg : (upd Hb pg (.lst [.ref p1, .ref p2])) pg = some (.lst [.ref p1, .ref p2]) := upd_same
    generalize upd Hb pg (.lst [.ref p1, .ref p2]) = Hd at sd sHd e1 e2 eg
    have l1 : ys1.length ≤ 6 := by rw [pm1.length_eq, List.length_map]; omega
    have l2 : ys2.length ≤ 6 := by rw [pm2.length_eq, List.length_map]; omega
    have STd := STA sHd
    refine ⟨.ref q0, rfl, q0, _, 0, _, rfl, rfl, sz Hd sHd, atI_nat (j := 0) rfl, kt, kkv ks, _, rfl, .inl STd.2.1.kd, kkv_keys _, (by rw [List.length_map]; omega), fun zs1 r1 pz1 sz1 nr1 => ?_⟩
    have t1 := same_new (o := .lst (zs1.map V.str)) nr1
    refine ⟨.ref q0, rfl, q0, _, 1, _, rfl, rfl, sz _ (sHd.trans t1), atI_nat (j := 1) rfl, ft, fkvs fs, _, rfl, .inl (t1 _ _ STd.2.1.fd), fkvs_keys _, (by rw [List.length_map]; omega), fun zs2 r2 pz2 sz2 nr2 => ⟨hS 2 (by decide), fun pr npr => ?_⟩⟩
    have t2 := same_new (o := .lst (zs2.map V.str)) nr2
    have t3 := same_new (o := .lst [.ref r1, .ref r2]) npr
    have t13 := (t1.trans t2).trans t3
    have h1 := sorted_one so1 sz1 (pm1.trans pz1.symm)
    have h2 := sorted_one so2 sz2 (pm2.trans pz2.symm)
    subst h1 h2
    have sm : SameV 2 _ (.ref pg) (.ref pr) := .inr (.inl ⟨pg, pr, _, _, rfl, rfl, .inl ⟨t13 _ _ eg, upd_same⟩, rfl, by show 2 ≤ 1000; decide, fun i u v eu ev => by
      match i, eu, ev with
      | 0, eu, ev =>
        cases eu
        cases ev
        exact SameV.strs (t13 _ _ e1) ((t2.trans t3) _ _ upd_same) (by omega)
      | 1, eu, ev =>
        cases eu
        cases ev
        exact SameV.strs (t13 _ _ e2) (t3 _ _ upd_same) (by omega)
      | n + 2, eu, _ => cases eu⟩)
    refine ⟨_, _, rfl, SameV.le (by decide) sm, fun He se => ⟨true, rfl, iteF ?_⟩⟩
    have sHe := sHd.trans (t13.trans se)
    clear sm
    -- built.unions()
    obtain ⟨dx, kt', ft', ut', hx⟩ := insx He sHe
    refine ⟨.ref x, rfl, x, dx, _, rfl, hx, lkn _ _ _ _ (by decide +kernel) (by decide +kernel) (by decide +kernel) (by decide +kernel), x, ks, fs, us, root, rfl, BtA sHe, k1, f1', u1, fun ys3 p3 Hf pm3 so3 sf nf ef => ?_⟩
    have sHf := sHe.trans sf
    refine ⟨.ref q0, rfl, q0, _, 2, _, rfl, rfl, sz Hf sHf, atI_nat (j := 2) rfl, ut, ukv us, _, rfl, .inl (STA sHf).2.1.ud, ukv_keys _, (by rw [List.length_map]; omega), fun zs3 r3 pz3 sz3 nr3 => ?_⟩
    have h3 := sorted_one so3 sz3 (pm3.trans pz3.symm)
    subst h3
    have l3 : ys3.length ≤ 6 := by rw [pm3.length_eq, List.length_map]; omega
    have t4 := same_new (o := .lst (ys3.map V.str)) nr3
    refine ⟨_, _, rfl, SameV.le (by decide) (SameV.strs (t4 _ _ ef) upd_same (by omega)), fun Hg sg => ⟨true, rfl, iteF ?_⟩⟩
    have sHg := (sHf.trans t4).trans sg
    -- built.root
    obtain ⟨dx, kt', ft', ut', hx⟩ := insx Hg sHg
    refine ⟨.ref x, rfl, x, C, dx, _, _, rfl, hx, L.cl, L.nr, lkr .., .ref q0, rfl, q0, _, 3, _, rfl, rfl, sz Hg sHg, atI_nat (j := 3) rfl, _, _, rfl, SameV.strV, fun Hh sh => ⟨true, rfl, iteF ?_⟩⟩
    have sHh := sHg.trans sh
    -- the bases
    refine ⟨.ref q0, rfl, q0, kt, ft, ut, ks, fs, us, root, rfl, STA sHh, fun LB pb Hi pl si ni ei => ?_⟩
    have sHi := sHh.trans si
    have hLBm : ∀ z, z ∈ LB → z ∈ bsOf ks fs us := fun z m => by
      have := pl.mem_iff.mp m
      rw [List.append_assoc] at this
      exact List.mem_append_right _ this
    refine ⟨pb, rfl, ⟨_, SqL.of ei⟩, for_list (xs := LB.map V.str) (fun j σ H4 => ∃ y2 y3 y4 : Option V, σ = [some (.ref x), some (.ref q0), y2, y3, y4] ∧ Same Hi H4) ?_ ?_ ?_ ?_⟩
    · exact ⟨_, _, _, rfl, fun _ _ e => e⟩
    · rintro j σ H4 _ ⟨_, _, _, _, s4⟩
      exact SqL.of (s4 _ _ ei)
    · rintro j y σ H4 ey ⟨y2, y3, y4, rfl, s4⟩
      obtain ⟨z, hz, rfl⟩ := List.mem_map.mp (List.mem_of_getElem? ey)
      have hzb := hLBm z hz
      have sH4 := sHi.trans s4
      obtain ⟨dx, kt', ft', ut', hx⟩ := insx H4 sH4
      refine ⟨.ref x, rfl, x, dx, _, rfl, hx, lkn _ _ _ _ (by decide +kernel) (by decide +kernel) (by decide +kernel) (by decide +kernel), .str z, rfl, x, .str z, ks, fs, us, root, rfl, BtA sH4, ok, .inl ⟨z, rfl, hzb, fun m1 pm H5 ml1 s5 nm em => ?_⟩⟩
      refine ⟨.ref q0, rfl, .str z, rfl, q0, kt, ft, ut, ks, fs, us, root, z, rfl, STA (sH4.trans s5), fun m2 pm2 H6 ml2 s6 nm2 em2 => ?_⟩
      have s46 := s5.trans s6
      cases MemL.one ok.ndu ml1 ml2
      refine ⟨_, _, rfl, SameV.le (by decide) (SameV.strs (s6 _ _ em) em2 (by have := ml1.2.1; omega)), fun H7 s7 => ⟨true, rfl, iteF ?_⟩⟩
      have s47 := s46.trans s7
      have sH7 := sH4.trans s47
      -- the table
      refine ⟨.ref q0, rfl, .str z, rfl, q0, kt, ft, ut, ks, fs, us, root, z, rfl, STA sH7, fun fds d H8 hf sh8 s8 e8 => ?_⟩
      have sH8 := sH7.trans s8
      have few := hf.few ok
      have fnd := hf.nd ok
      have hsz : (fds.map (·.1)).length < 64 := by
        rw [List.length_map]
        omega
      obtain ⟨dx, kt', ft', ut', hx⟩ := insx H8 sH8
      refine ⟨.ref x, rfl, x, dx, _, rfl, hx, lkn _ _ _ _ (by decide +kernel) (by decide +kernel) (by decide +kernel) (by decide +kernel), .str z, rfl, x, .str z, ks, fs, us, root, rfl, BtA sH8, ok, .inl ⟨z, rfl, hzb, fun fds1 l1 q1 H9 hf1 pm1 so1 s9 n1 e1 => ?_⟩⟩
      cases hf.uniq ok hf1
      refine ⟨.ref d, rfl, d, fkv fds, _, rfl, .inl (s9 _ _ e8), fkv_keys fds, hsz, fun ys1 r1 pys1 sys1 nr1 => ?_⟩
      cases sorted_one so1 sys1 (pm1.trans pys1.symm)
      have t9 := same_new (o := .lst (l1.map V.str)) nr1
      have hl1 : l1.length ≤ 5 := by rw [pm1.length_eq, List.length_map]; exact few
      refine ⟨_, _, rfl, ((SameV.strs (t9 _ _ e1) upd_same (by omega)).le (by decide)), fun H10 s10 => ⟨true, rfl, iteF ?_⟩⟩
      have s810 := (s9.trans t9).trans s10
      have e10 := s810 _ _ e8
      -- each field
      refine ⟨.ref d, rfl, d, fkv fds, _, rfl, .inl e10, fkv_keys fds, hsz, fun ys2 r2 pys2 sys2 nr2 => ⟨r2, rfl, ⟨_, SqL.of upd_same⟩, ?_⟩⟩
      have t10 := same_new (o := .lst (ys2.map V.str)) nr2
      refine for_list (xs := ys2.map V.str) (fun j σ H11 => ∃ y4 : Option V, σ = [some (.ref x), some (.ref q0), some (.str z), some (.ref d), y4] ∧ Same (upd H10 r2 (.lst (ys2.map V.str))) H11) ?_ ?_ ?_ ?_
      · exact ⟨_, rfl, fun _ _ e => e⟩
      · rintro j σ H11 _ ⟨_, _, s11⟩
        exact SqL.of (s11 _ _ upd_same)
      · rintro j y σ H11 ey2 ⟨y4', rfl, s11⟩
        obtain ⟨g, hg, rfl⟩ := List.mem_map.mp (List.mem_of_getElem? ey2)
        obtain ⟨fl, fm, rfl⟩ := List.mem_map.mp (pys2.mem_iff.mp hg)
        have s811 := (s810.trans t10).trans s11
        have sH11 := sH8.trans s811
        obtain ⟨dx, kt', ft', ut', hx⟩ := insx H11 sH11
        refine ⟨.ref x, rfl, x, dx, _, rfl, hx, lkn _ _ _ _ (by decide +kernel) (by decide +kernel) (by decide +kernel) (by decide +kernel), .str z, rfl, .str fl.1, rfl, x, .str z, .str fl.1, ks, fs, us, root, rfl, BtA sH11, ok, .inl ⟨z, rfl, hzb, fun fds' hf' => ?_⟩⟩
        cases hf.uniq ok hf'
        refine .inl ⟨fl.1, rfl, .inl ⟨fl, fm, rfl, fun H12 s12 sh12 => ?_⟩⟩
        have hv : valV (fkv fds) (Sum.inr fl.1) = some fl.2.1 := valV_map (f := fun f : Fld => f.1) (g := fun f => f.2.1) fnd fm
        refine ⟨.ref d, rfl, .str fl.1, rfl, d, fl.2.1, rfl, .inl ⟨fkv fds, .inr fl.1, .inl ((s811.trans s12) _ _ e8), rfl, hv.symm⟩, ?_⟩
        refine ⟨_, _, rfl, SameV.le (okS_dep (hf.ok ok fm)) sh12.self, fun H13 s13 => ⟨true, rfl, iteF ?_⟩⟩
        exact ⟨_, rfl, (s11.trans s12).trans s13⟩
      · rintro σ H11 ⟨y4', rfl, s11⟩
        exact ⟨_, _, _, rfl, s4.trans (s47.trans (s8.trans ((s810.trans t10).trans s11)))⟩
    · rintro σ H4 ⟨y2, y3, y4, rfl, s4⟩
      exact qq H4 (sHi.trans s4)
end
end NW
namespace NW
open PySem PySem.Spec PyProof.Rows L2
/-! ### == of dicts that hold tuples and dicts -/
def EqTD (K : PySem.W.Frag) (H : Hp) (F : V → V → Prop) (x y : V) : Prop :=
  (∃ a b xs ys, x = .ref a ∧ y = .ref b ∧ H a = some (.tup xs) ∧ H b = some (.tup ys) ∧ Paired F xs ys) ∨
    ∃ a b kvs lvs, x = .ref a ∧ y = .ref b ∧ H a = some (.dK kvs) ∧ H b = some (.dK lvs) ∧ kvs.length = lvs.length ∧ ∀ kv ∈ kvs, ∃ u, valV lvs kv.1 = some u ∧ F kv.2 u
/-- equal, so deep -/
def EqW (K : PySem.W.Frag) (H : Hp) : Nat → V → V → Prop
  | 0, _, _ => False
  | n + 1, x, y => (x = y ∧ flatB x = true) ∨ EqTD K H (EqW K H n) x y
section
variable {X : Cx} {pins : List (Addr × Obj)} {σ : L2.St} {H : Hp} {s : Shared}
theorem eqTD_run (I : Inv X pins σ H s) {A : Around} {F : V → V → Prop} (hu : A.units < cLine) (ih : ∀ x y v u, F x y → RelV x v → RelV y u → SeqAt.EqP X.prog X.w A.in1 s v u true) {x y : V} {v u : Value} (h : EqTD X.K H F x y) (rx : RelV x v) (ry : RelV y u)
    (E Q : Value → Shared → Prop) (q : Q (.bool true) s) : wpAny (model X.prog X.w) A (richCompare .Eq v u) Q E s := by
  rcases h with ⟨a, b, xs, ys, rfl, rfl, ha, hb, hp⟩ | ⟨a, b, kvs, lvs, rfl, rfl, ha, hb, hl, hp⟩
  · obtain rfl : v = Value.ref a := rx
    obtain rfl : u = Value.ref b := ry
    obtain ⟨its, r1, t1, _⟩ := I.tuple (a := a) (xs := xs) (.inl (.inl ha))
    obtain ⟨jts, r2, t2, _⟩ := I.tuple (a := b) (xs := ys) (.inl (.inl hb))
    have hsz : its.toArray.size = jts.toArray.size := by
      rw [List.size_toArray, List.size_toArray, ← Vals.length r1, ← Vals.length r2]
      exact Paired.length hp
    refine GQ.rc_tupG hsz hu (fun _ s' => s' = s) t1 t2 (fun i h1 h2 s' e => ?_) (fun s' e => ?_) rfl
    · subst e
      have k := items_run ih hp r1 r2 i (by simpa using h1) (by simpa using h2)
      exact k _ _ ⟨by simp, rfl⟩
    · subst e
      exact q
  · obtain rfl : v = Value.ref a := rx
    obtain rfl : u = Value.ref b := ry
    obtain ⟨_, la, va, ra, da⟩ := (show ObjOk X.prog X.w H s.heap a (.dK kvs) from I.hok a _ ha)
    obtain ⟨_, lb, vb, rb, db⟩ := (show ObjOk X.prog X.w H s.heap b (.dK lvs) from I.hok b _ hb)
    have hits := hits_run ih rb ra hp
    have hlen : (va.length == vb.length) = true := by
      rw [beq_iff_eq, ← ra.length, ← rb.length]
      exact hl
    exact PySem.W.rcP_dicts (knd := mixKind X.prog X.w) la lb da db hu (fun _ => hits) E Q (by rw [hlen]; exact q)
theorem eqW_run (I : Inv X pins σ H s) : ∀ (n : Nat) (A : Around), A.units + n < cLine → ∀ (x y : V) (v u : Value), EqW X.K H n x y → RelV x v → RelV y u → SeqAt.EqP X.prog X.w A s v u true := by
  intro n
  induction n with
  | zero => intro A _ x y v u h; exact h.elim
  | succ n ih =>
    intro A hu x y v u h rx ry
    rcases h with ⟨rfl, f⟩ | h
    · exact (eqAt_same rx ry f).eqP
    · have turn := eqTD_run I (A := A) (by omega) (ih A.in1 (by show A.units + 1 + n < cLine; omega)) h rx ry
      have hab : ∃ a b, v = .ref a ∧ u = .ref b := by
        rcases h with ⟨a, b, _, _, rfl, rfl, _⟩ | ⟨a, b, _, _, rfl, rfl, _⟩
        · exact ⟨a, b, rx, ry⟩
        · exact ⟨a, b, rx, ry⟩
      obtain ⟨a, b, rfl, rfl⟩ := hab
      by_cases e : a = b
      · rw [e]
        exact (SeqAt.EqAt.same _).eqP
      · exact SeqAt.eqP_refs e turn
end
def rEqTD (K : PySem.W.Frag) : R2 := fun x y H Q => ∃ n, n ≤ 40 ∧ EqTD K H (EqW K H n) x y ∧ Q (.bl true) H
theorem op_eqTD {X : Cx} (hu : X.A.units + 64 < cLine) : OpR X (compareOp .Eq) (rEqTD X.K) := by
  intro pins s σ H x y v u Q I rx ry h
  obtain ⟨n, hn, h, q⟩ := h
  exact eqTD_run I (A := X.A) (by omega) (eqW_run I n X.A.in1 (by show X.A.units + 1 + n < cLine; omega)) h rx ry _ _ ⟨.bl true, H, I, rfl, q⟩
/-! ### shapes, fields, rows that are equal -/
theorem paired_refl {F : V → V → Prop} : ∀ {xs : List V}, (∀ x ∈ xs, F x x) → Paired F xs xs
  | [], _ => .nil
  | x :: r, h => .cons (h x List.mem_cons_self) (paired_refl fun y m => h y (List.mem_cons_of_mem _ m))
theorem EqW.strs {K : PySem.W.Frag} {H : Hp} {a b : Addr} {l : List Str} {n : Nat} (ha : H a = some (.tup (l.map V.str))) (hb : H b = some (.tup (l.map V.str))) : EqTD K H (EqW K H (n + 1)) (.ref a) (.ref b) :=
  .inl ⟨a, b, _, _, rfl, rfl, ha, hb, paired_refl fun x m => by
    obtain ⟨z, _, rfl⟩ := List.mem_map.mp m
    exact .inl ⟨rfl, rfl⟩⟩
theorem ShAt.eqW {K : PySem.W.Frag} {H : Hp} : ∀ {s : Shp} {n : Nat} {v u : V}, s.dep < n → ShAt H v s → ShAt H u s → EqW K H n v u := by
  intro s
  induction s with
  | base z =>
    rintro n v u hn rfl rfl
    obtain ⟨m, rfl⟩ := Nat.exists_eq_succ_of_ne_zero (show n ≠ 0 by omega)
    exact .inl ⟨rfl, rfl⟩
  | sure s ih =>
    rintro n v u hn ⟨a, v', rfl, ha, hv⟩ ⟨b, u', rfl, hb, hu⟩
    have hn' : s.dep + 1 < n := hn
    obtain ⟨m, rfl⟩ := Nat.exists_eq_succ_of_ne_zero (show n ≠ 0 by omega)
    obtain ⟨m', rfl⟩ := Nat.exists_eq_succ_of_ne_zero (show m ≠ 0 by omega)
    exact .inr (.inl ⟨a, b, _, _, rfl, rfl, ha, hb, .cons (.inl ⟨rfl, rfl⟩) (.cons (ih (by omega) hv hu) .nil)⟩)
  | list s ih =>
    rintro n v u hn ⟨a, v', rfl, ha, hv⟩ ⟨b, u', rfl, hb, hu⟩
    have hn' : s.dep + 1 < n := hn
    obtain ⟨m, rfl⟩ := Nat.exists_eq_succ_of_ne_zero (show n ≠ 0 by omega)
    obtain ⟨m', rfl⟩ := Nat.exists_eq_succ_of_ne_zero (show m ≠ 0 by omega)
    exact .inr (.inl ⟨a, b, _, _, rfl, rfl, ha, hb, .cons (.inl ⟨rfl, rfl⟩) (.cons (ih (by omega) hv hu) .nil)⟩)
/-- the same names with the same shapes, in the same order -/
def EqFds (fds fds' : List Fld) : Prop := fds'.length = fds.length ∧ ∀ (i : Nat) (f f' : Fld), fds[i]? = some f → fds'[i]? = some f' → f'.1 = f.1 ∧ f'.2.2 = f.2.2
def EqK (ks ks' : List KRow) : Prop := ks'.length = ks.length ∧ ∀ (i : Nat) (k k' : KRow), ks[i]? = some k → ks'[i]? = some k' → k'.nm = k.nm ∧ k'.fcs.Perm k.fcs ∧ EqFds k.fds k'.fds
def EqF (fs fs' : List FRow) : Prop := fs'.length = fs.length ∧ ∀ (i : Nat) (k k' : FRow), fs[i]? = some k → fs'[i]? = some k' → k'.nm = k.nm ∧ EqFds k.fds k'.fds
theorem EqFds.dict {K : PySem.W.Frag} {H : Hp} {a b : Addr} {fds fds' : List Fld} (h : EqFds fds fds') (nd : (fds.map (·.1)).Nodup) (dp : ∀ f ∈ fds, f.2.2.dep ≤ 4) (ha : FldAt H a fds) (hb : FldAt H b fds') : EqTD K H (EqW K H 5) (.ref a) (.ref b) := by
  refine .inr ⟨a, b, _, _, rfl, rfl, ha.at_, hb.at_, ?_, fun kv m => ?_⟩
  · rw [show (fkv fds).length = fds.length from List.length_map .., show (fkv fds').length = fds'.length from List.length_map .., h.1]
  · obtain ⟨f, mf, rfl⟩ := List.mem_map.mp m
    obtain ⟨i, ei⟩ := List.getElem?_of_mem mf
    obtain ⟨f', ei'⟩ := at_len h.1 ei
    obtain ⟨e1, e2⟩ := h.2 i f f' ei ei'
    have nd' : (fds'.map (·.1)).Nodup := by rw [map_rel h.1 fun i a b ea eb => (h.2 i a b ea eb).1]; exact nd
    have mf' := List.mem_of_getElem? ei'
    refine ⟨f'.2.1, ?_, ShAt.eqW (s := f.2.2) (Nat.lt_succ_of_le (dp f mf)) (ha.sh f mf) (e2 ▸ hb.sh f' mf')⟩
    show valV (fkv fds') (Sum.inr f.1) = _
    rw [← e1]
    exact fkv_val nd' mf'
end NW
namespace NW
open PySem PySem.Spec PyProof.Rows L2
open AutoSeq1 (wpAny_loadPart')
open MeetsSeq MeetsSeq2 MeetsSeq3 SeqRoads2
/-! ### == with both answers: tuples, dicts, data -/
section
variable {prog : Program} {w : World} {A : Around} {s : Shared} {l b : Addr} {its jts : Array Value} {n m : Nat} {dd de : Option Addr} {sl sm : Array (Option Value)} {e : Nat → Bool}
theorem tup_body {R : Result → Shared → Prop} (hl : s.heap.get? l = some { cls := .type "tuple", dict := dd, data := .seq its n, slots := sl }) (hb : s.heap.get? b = some { cls := .type "tuple", dict := de, data := .seq jts m, slots := sm }) (hsz : its.size = jts.size)
    (he : ∀ j (h1 : j < its.size) (h2 : j < jts.size), SeqAt.EqP prog w A.in1 s its[j] jts[j] (e j)) (hR : R (.ok (.ret (.bool ((List.range its.size).all e)))) s) :
    wpAny (model prog w) A.in1 (Builtin.«tuple.__eq__» ⟨[.ref l, .ref b], []⟩) (GQ.FinOf prog w A R) (fun e s' => R (.error e) s') s := by
  have f2 := AutoSeq1.sub_tuple_tuple
  have hZ : (its.toList.zip jts.toList).length = its.size := by simp [hsz]
  obtain ⟨hp, g, d, tk, os⟩ := s
  wp_walk using wpAny_loadPart' hl, wpAny_loadPart' hb, wpAny_forIn_list _ (fun rest c s' => c.1 = none ∧ s' = ⟨hp, g, d, tk, os⟩ ∧ ∃ i, rest = (its.toList.zip jts.toList).drop i ∧ R (.ok (.ret (.bool (((List.range its.size).drop i).all e)))) ⟨hp, g, d, tk, os⟩) _
  case turn =>
    rintro ⟨y, x⟩ rest c s' ⟨hc, rfl, i, hz, hr⟩
    have hlt : i < (its.toList.zip jts.toList).length := by
      rcases Nat.lt_or_ge i (its.toList.zip jts.toList).length with h' | h'
      · exact h'
      · rw [List.drop_of_length_le h'] at hz; cases hz
    have h1 : i < its.size := by omega
    have h2 : i < jts.size := by omega
    rw [List.drop_eq_getElem_cons hlt] at hz
    injection hz with hyx hrest
    have hy : y = its[i] := by have := congrArg Prod.fst hyx; simpa using this
    have hx : x = jts[i] := by have := congrArg Prod.snd hyx; simpa using this
    subst hy hx
    have hd : (List.range its.size).drop i = i :: (List.range its.size).drop (i + 1) := by simp [List.drop_eq_getElem_cons, h1]
    rw [hd, List.all_cons] at hr
    refine wpAny_bind (he i h1 h2 _ _ ?_)
    cases hy : e i with
    | true =>
      rw [hy] at hr
      wp_walk
      exact ⟨rfl, rfl, i + 1, hrest, by simpa using hr⟩
    | false =>
      rw [hy] at hr
      wp_walk
      exact hr
  case fin =>
    rintro ⟨b1, b2⟩ s' ⟨hc, rfl, i, hz, hr⟩
    simp only at hc
    subst hc
    have hge : its.size ≤ i := by
      rcases Nat.lt_or_ge i (its.toList.zip jts.toList).length with h' | h'
      · rw [List.drop_eq_getElem_cons h'] at hz; cases hz
      · omega
    rw [List.drop_of_length_le (by simpa using hge)] at hr
    wp_walk
    simpa [Builtin.Tuple.tupleCompareSizes, hsz] using hr
  case h =>
    exact ⟨rfl, rfl, 0, rfl, by simpa using hR⟩
theorem rc_tuples {E Q : Value → Shared → Prop} (hl : s.heap.IsTuple l its) (hb : s.heap.IsTuple b jts) (hsz : its.size = jts.size) (hu : A.units < cLine)
    (he : ∀ j (h1 : j < its.size) (h2 : j < jts.size), SeqAt.EqP prog w A.in1 s its[j] jts[j] (e j)) (q : Q (.bool ((List.range its.size).all e)) s) : wpAny (model prog w) A (richCompare .Eq (.ref l) (.ref b)) Q E s := by
  obtain ⟨⟨c1, dd, data, sl⟩, o1, hc, n, hd⟩ := id hl
  obtain ⟨⟨c2, de, data2, sm⟩, o2, hc2, m, hd2⟩ := id hb
  simp only at hc hd hc2 hd2
  subst hc hd hc2 hd2
  refine wpAny_richCompare_same_room (op := .Eq) ⟨_, o1, rfl⟩ ⟨_, o2, rfl⟩ F.slot_tuple_eq (GQ.call_here F.slot_tuple_eq ⟨_, o1, rfl⟩ F.entry_tuple_eq (F.args_tuple_eq_2 _ _) ?_) hu
  exact tup_body (R := wants (fun v s' => v ≠ .notImplemented ∧ Q v s') E) o1 o2 hsz he ⟨(fun x => nomatch x), q⟩
end
/-- two dicts of the same keys, or two tuples as long; F says what == of two items answers -/
def CmpTD (K : PySem.W.Frag) (H : Hp) (F : V → V → Bool → Prop) (x y : V) (β : Bool) : Prop :=
  (∃ a b xs ys e, x = .ref a ∧ y = .ref b ∧ H a = some (.tup xs) ∧ H b = some (.tup ys) ∧ xs.length = ys.length ∧ (∀ (i : Nat) u v, xs[i]? = some u → ys[i]? = some v → F u v (e i)) ∧ β = (List.range xs.length).all e) ∨
    ∃ a b kvs lvs e, x = .ref a ∧ y = .ref b ∧ H a = some (.dK kvs) ∧ H b = some (.dK lvs) ∧ kvs.length = lvs.length ∧ (∀ (i : Nat) kv, kvs[i]? = some kv → ∃ u, valV lvs kv.1 = some u ∧ F kv.2 u (e i)) ∧ β = (List.range kvs.length).all e
def CmpW (K : PySem.W.Frag) (H : Hp) : Nat → V → V → Bool → Prop
  | 0, x, y, β => ∃ d e, Dp K H x d ∧ Dp K H y e ∧ SeqAt.shaped d = true ∧ SeqAt.shaped e = true ∧ β = PyData.eqv d e
  | n + 1, x, y, β => CmpW K H n x y β ∨ (CmpTD K H (CmpW K H n) x y β ∧ (x = y → β = true))
theorem all_range_cons (e : Nat → Bool) (n : Nat) : (List.range (n + 1)).all e = (e 0 && (List.range n).all fun i => e (i + 1)) := by
  rw [List.range_succ_eq_map, List.all_cons, List.all_map]
  rfl
section
variable {X : Cx} {pins : List (Addr × Obj)} {σ : L2.St} {H : Hp} {s : Shared}
theorem hits_cmp {P : Program} {w : World} {A : Around} {F : V → V → Bool → Prop} (ih : ∀ x y β v u, F x y β → RelV x v → RelV y u → SeqAt.EqP P w A s v u β) {ls : List (Key × V)} {vb : List (Key × Value)} (rb : KV ls vb) : ∀ {ks : List (Key × V)} {va : List (Key × Value)},
    KV ks va → ∀ (e : Nat → Bool), (∀ (i : Nat) kv, ks[i]? = some kv → ∃ u, valV ls kv.1 = some u ∧ F kv.2 u (e i)) → PySem.W.KeqHitsP P w A s vb va ((List.range ks.length).all e) := by
  intro ks va ra
  unfold KV at ra
  induction ra with
  | nil => intro e _; exact .nil
  | @cons p q ps qs h t k =>
    intro e hp
    obtain ⟨h1, h2⟩ := h
    obtain ⟨u, eu, f⟩ := hp 0 p rfl
    have rr : RelO (some u) (valueAt vb p.1) := by rw [← eu]; exact rb.val p.1
    obtain ⟨y, hy, ry⟩ := rr.some_of
    obtain ⟨key, v⟩ := q
    obtain rfl : p.1 = key := h1
    rw [List.length_cons, all_range_cons]
    exact .hit hy (ih _ _ _ _ _ f h2 ry) (k _ fun i kv ei => hp (i + 1) kv ei)
theorem cmpTD_run (I : Inv X pins σ H s) {A : Around} {F : V → V → Bool → Prop} (hu : A.units < cLine) (ih : ∀ x y β v u, F x y β → RelV x v → RelV y u → SeqAt.EqP X.prog X.w A.in1 s v u β) {x y : V} {β : Bool} {v u : Value} (h : CmpTD X.K H F x y β) (rx : RelV x v) (ry : RelV y u)
    (E Q : Value → Shared → Prop) (q : Q (.bool β) s) : wpAny (model X.prog X.w) A (richCompare .Eq v u) Q E s := by
  rcases h with ⟨a, b, xs, ys, e, rfl, rfl, ha, hb, hl, hp, rfl⟩ | ⟨a, b, kvs, lvs, e, rfl, rfl, ha, hb, hl, hp, rfl⟩
  · obtain rfl : v = Value.ref a := rx
    obtain rfl : u = Value.ref b := ry
    obtain ⟨its, r1, t1, _⟩ := I.tuple (a := a) (xs := xs) (.inl (.inl ha))
    obtain ⟨jts, r2, t2, _⟩ := I.tuple (a := b) (xs := ys) (.inl (.inl hb))
    have e1 : its.toArray.size = xs.length := by rw [List.size_toArray, ← Vals.length r1]
    have hsz : its.toArray.size = jts.toArray.size := by rw [e1, List.size_toArray, ← Vals.length r2, hl]
    refine rc_tuples (e := e) t1 t2 hsz hu (fun j h1 h2 => ?_) (by rw [e1]; exact q)
    have k1 : j < xs.length := by omega
    have k2 : j < ys.length := by omega
    obtain ⟨v1, g1, q1⟩ := r1.get (List.getElem?_eq_getElem k1)
    obtain ⟨v2, g2, q2⟩ := r2.get (List.getElem?_eq_getElem k2)
    have i1 : j < its.length := by simpa using h1
    have i2 : j < jts.length := by simpa using h2
    rw [List.getElem?_eq_getElem i1] at g1
    rw [List.getElem?_eq_getElem i2] at g2
    have z1 : its.toArray[j] = v1 := by simpa using Option.some.inj g1
    have z2 : jts.toArray[j] = v2 := by simpa using Option.some.inj g2
    rw [z1, z2]
    exact ih _ _ _ _ _ (hp j _ _ (List.getElem?_eq_getElem k1) (List.getElem?_eq_getElem k2)) q1 q2
  · obtain rfl : v = Value.ref a := rx
    obtain rfl : u = Value.ref b := ry
    obtain ⟨_, la, va, ra, da⟩ := (show ObjOk X.prog X.w H s.heap a (.dK kvs) from I.hok a _ ha)
    obtain ⟨_, lb, vb, rb, db⟩ := (show ObjOk X.prog X.w H s.heap b (.dK lvs) from I.hok b _ hb)
    have hits := hits_cmp ih rb ra e hp
    have hlen : (va.length == vb.length) = true := by
      rw [beq_iff_eq, ← ra.length, ← rb.length]
      exact hl
    exact PySem.W.rcP_dicts (knd := mixKind X.prog X.w) la lb da db hu (fun _ => hits) E Q (by rw [hlen, Bool.true_and]; exact q)
theorem cmpW_run (I : Inv X pins σ H s) : ∀ (n : Nat) (A : Around), A.units + n + 64 < cLine → ∀ (x y : V) (β : Bool) (v u : Value), CmpW X.K H n x y β → RelV x v → RelV y u → SeqAt.EqP X.prog X.w A s v u β := by
  intro n
  induction n with
  | zero =>
    rintro A hu x y β v u ⟨d, e, hd, he, sd, se, rfl⟩ rx ry
    obtain ⟨as, r1⟩ := Dp.reads I d x v hd rx
    obtain ⟨bs, r2⟩ := Dp.reads I e y u he ry
    exact (SeqAt.eqAt_reads d e A s v u as bs r1 r2 (SeqAt.canLay_of_shaped sd) (SeqAt.canLay_of_shaped se) (SeqAt.room_of_shaped sd (by omega))).eqP
  | succ n ih =>
    intro A hu x y β v u h rx ry
    rcases h with h | ⟨h, one⟩
    · exact ih A (by omega) x y β v u h rx ry
    · have turn := cmpTD_run I (A := A) (by omega) (ih A.in1 (by show A.units + 1 + n + 64 < cLine; omega)) h rx ry
      have hab : ∃ a b, x = .ref a ∧ y = .ref b ∧ v = .ref a ∧ u = .ref b := by
        rcases h with ⟨a, b, _, _, _, rfl, rfl, _⟩ | ⟨a, b, _, _, _, rfl, rfl, _⟩
        · exact ⟨a, b, rfl, rfl, rx, ry⟩
        · exact ⟨a, b, rfl, rfl, rx, ry⟩
      obtain ⟨a, b, rfl, rfl, rfl, rfl⟩ := hab
      by_cases e : a = b
      · rw [one (by rw [e]), e]
        exact (SeqAt.EqAt.same _).eqP
      · exact SeqAt.eqP_refs e turn
end
def rCmpTD (K : PySem.W.Frag) : R2 := fun x y H Q => ∃ n β, n ≤ 40 ∧ CmpTD K H (CmpW K H n) x y β ∧ Q (.bl β) H
theorem op_cmpTD {X : Cx} (hu : X.A.units + 128 < cLine) : OpR X (compareOp .Eq) (rCmpTD X.K) := by
  intro pins s σ H x y v u Q I rx ry h
  obtain ⟨n, β, hn, h, q⟩ := h
  exact cmpTD_run I (A := X.A) (by omega) (cmpW_run I n X.A.in1 (by show X.A.units + 1 + n + 64 < cLine; omega)) h rx ry _ _ ⟨.bl β, H, I, rfl, q⟩
/-! ### an own ==, with both answers, and != -/
def spEqB (R : Addr → Addr → Hp → Bool → Prop) : Sp := fun vs H Q _ => ∃ a b β, vs = [.ref a, .ref b] ∧ R a b H β ∧ ∀ H', Same H H' → Q (.bl β) H'
section
variable {X : Cx} {n : Nat} {CX : CXT} {C f : Addr} {fd : FuncData} {ps : List Str} {R : Addr → Addr → Hp → Bool → Prop} {E : XK}
theorem eq_call (F : FnOk X.prog X.w X.K X.mg X.base CX n f fd ps (spEqB R)) (hb : Binds X.K fd ps []) (hx : Passes CX X E) {A : Around} {pins : List (Addr × Obj)} {s : Shared} {σ : L2.St} {H : Hp} {a b : Addr} {β : Bool} (sb : Sub X n A) (I : Inv X pins σ H s) (hr : R a b H β) :
    wpAny (model X.prog X.w) A (call (.ref f) [.ref a, .ref b]) (fun v s' => v = .bool β ∧ ∃ H', Inv X pins σ H' s' ∧ Same H H') X.xe s := by
  have hsp : spEqB R [.ref a, .ref b] H (fun v H' => v = .bl β ∧ Same H H') E := ⟨a, b, β, rfl, hr, fun H' e => ⟨rfl, e⟩⟩
  have e0 : Env0 X.prog X.w X.K X.mg X.base A X.stack s H := by
    have e := I.env0
    exact ⟨by rw [sb.fr]; exact e.frames, e.mod, e.bs, e.bsz, e.funs, e.frf, e.hok, e.bare⟩
  have hl := F.len _ _ _ _ hsp
  have r2 : Vals [V.ref a, V.ref b] [Value.ref a, Value.ref b] := .cons rfl (.cons rfl .nil)
  refine wpAny_call (codeAny_mono (F.run A X.stack s H ⟨[.ref a, .ref b], []⟩ [.ref a, .ref b] [.ref a, .ref b] _ E sb.room e0 (by
    have := hb s [.ref a, .ref b] I.kIn (by simpa using hl)
    simpa using this) r2 hsp) fun r s' hq => ?_)
  cases r with
  | error e => exact hx pins σ H s e s' I hq
  | ok fl =>
    cases fl with
    | ret z0 =>
      obtain ⟨z, H', I', rz, ez, ex⟩ := I.after hq
      subst ez
      cases rz
      exact ⟨rfl, H', I', ex⟩
    | next => exact False.elim hq
    | brk => exact False.elim hq
    | cont => exact False.elim hq
def rOwnEq (C : Addr) (R : Addr → Addr → Hp → Bool → Prop) (neg : Bool) : R2 := fun x y H Q => ∃ a b dx dy fs gs β, x = .ref a ∧ y = .ref b ∧ H a = some (.ins C dx fs) ∧ H b = some (.ins C dy gs) ∧ R a b H β ∧ ∀ H', Same H H' → Q (.bl (neg ^^ β)) H'
theorem op_ownEq (F : FnOk X.prog X.w X.K X.mg X.base CX n f fd ps (spEqB R)) (hr : Room n X.A) (hs : PySem.W.findIn X.K (.ref C) "__eq__" = some (some (.ref f))) (hf : PySem.W.isFn X.K (.ref f) = true) (hb : Binds X.K fd ps []) (hx : Passes CX X E) : OpR X (compareOp .Eq) (rOwnEq C R false) := by
  intro pins s σ H x y v u Q I rx ry h
  obtain ⟨a, b, dx, dy, fs, gs, β, rfl, rfl, ha, hb', hR, q⟩ := h
  obtain rfl : v = Value.ref a := rx
  obtain rfl : u = Value.ref b := ry
  obtain ⟨mA, J, _⟩ := ins_get I.hok ha
  obtain ⟨mB, J', _⟩ := ins_get I.hok hb'
  obtain ⟨od, J, _⟩ := J.look
  obtain ⟨od', J', _⟩ := J'.look
  obtain ⟨m, hF⟩ := I.fr
  refine PySem.W.cmp_K (op := .Eq) (tb := .ref C) (show Sub X n X.A from ⟨hr, rfl⟩).room.units0 hF I.ok.mod.kin J J'.type (by simp [PySem.W.notFirst]) hs hf ?_
  refine wpAny_mono (eq_call F hb hx ⟨hr, rfl⟩ I hR) (fun r s' z => ?_) fun _ _ e => e
  obtain ⟨rfl, H', I', sm⟩ := z
  have := q H' sm
  exact ⟨.bl β, H', I', rfl, by cases β <;> exact this⟩
theorem bound_ne {M : Model} {A : Around} {E : Value → Shared → Prop} {s : Shared} {K : PySem.W.Frag} {x C : Addr} {ox : Obj} {od : Option Obj} {zs : List Value} {Q : Option Value → Shared → Prop} (XK : K.In s.heap) (J : PySem.W.InstAt s.heap x ox C od)
    (hs : PySem.W.findIn K (.ref C) "__ne__" = some (some (.builtin "object.__ne__"))) (h : wpAny M A (call (.builtin "object.__ne__") (.ref x :: zs)) (fun v s' => Q (some v) s') E s) : wpAny M A (callSpecialIfBound? (.ref x) "__ne__" zs) Q E s := by
  have last : wpAny M A (call (.builtin "object.__ne__") ([.ref x] ++ zs) >>= fun v => pure (some v)) Q E s := wpAny_bind (wpAny_mono h (fun _ _ k => wpAny_pure k) fun _ _ k => k)
  simp only [callSpecialIfBound?, bindSpecialIfBound?]
  refine wpAny_holding (wpAny_bind (wpAny_bind (wpAny_bind (J.type.here ((PySem.W.looks_findIn XK hs).here (wpAny_bind (wpAny_askSetting (wpAny_ite ?_))))))))
  split
  · exact wpAny_bind (wpAny_of_eq (F.cmp_object.ne.bind _) (wpAny_pure (by exact last)))
  · exact wpAny_tryCatch (wpAny_bind (wpAny_of_eq (F.cmp_object.ne.bind _) (wpAny_pure (by exact last))))
/-- != where the class has an own == and the common != -/
theorem op_ownNe (G : FnOk X.prog X.w X.K X.mg X.base CX n f fd ps (spEqB R)) (hr : Room (n + 2) X.A) (hs : PySem.W.findIn X.K (.ref C) "__eq__" = some (some (.ref f))) (hf : PySem.W.isFn X.K (.ref f) = true) (hn : PySem.W.findIn X.K (.ref C) "__ne__" = some (some (.builtin "object.__ne__")))
    (hm : PySem.W.mroIn X.K C (.type "object") = some true) (hb : Binds X.K fd ps []) (hx : Passes CX X E) : OpR X (compareOp .NotEq) (rOwnEq C R true) := by
  intro pins s σ H x y v u Q I rx ry h
  obtain ⟨a, b, dx, dy, fs, gs, β, rfl, rfl, ha, hb', hR, q⟩ := h
  obtain rfl : v = Value.ref a := rx
  obtain rfl : u = Value.ref b := ry
  obtain ⟨mA, J, _⟩ := ins_get I.hok ha
  obtain ⟨mB, J', _⟩ := ins_get I.hok hb'
  obtain ⟨od, J, _⟩ := J.look
  obtain ⟨od', J', _⟩ := J'.look
  have XK := I.kIn
  have sb : Sub X (n + 1 + 1) X.A := ⟨hr, rfl⟩
  have sb1 := sb.in1
  have inner : wpAny (model X.prog X.w) X.A.in1 (callSpecialIfBound? (.ref a) "__eq__" [.ref b]) (fun r s' => r = some (.bool β) ∧ ∃ H', Inv X pins σ H' s' ∧ Same H H') X.xe s :=
    PySem.W.ifBound_K XK J hs hf (wpAny_mono (eq_call G hb hx ⟨sb1.room.mono (Nat.le_succ n), sb1.fr⟩ I hR) (fun r s' z => ⟨congrArg some z.1, z.2⟩) fun _ _ e => e)
  have one : wpAny (model X.prog X.w) X.A (call (.builtin "object.__ne__") [.ref a, .ref b]) (fun r s' => r = .bool (!β) ∧ ∃ H', Inv X pins σ H' s' ∧ Same H H') X.xe s := by
    refine wpAny_call (codeAny_call_builtin F.cmp_object.ne.plain F.cmpEntry_ne (PySem.W.check_slot F.cmpKind_ne F.cmpSplit_ne (J.type.andThen (PySem.W.looks_mroIn XK hm)) (F.cmpArgs_ne _ _) ?_))
    unfold Builtin.«object.__ne__»
    obtain ⟨hp, g, d, tk, os⟩ := s
    repeat (first
      | with_reducible refine wpAny_cRoomFor sb1.room.units0 ?_
      | (refine wpAny_bind (m := callSpecialIfBound? (.ref a) (Str.ofString "__eq__") [.ref b]) (wpAny_mono inner (fun r s' hr => by
          obtain ⟨rfl, hq⟩ := hr
          repeat (first | exact ⟨rfl, hq⟩ | exact wpAny_pure ⟨rfl, hq⟩ | (refine wpAny_bind (m := truthy (.bool _)) (wpAny_truthy_bool ?_)) | wp_step)) fun _ _ e => e))
      | wp_step)
  have two : wpAny (model X.prog X.w) X.A (tryCompare (.ref a) (cmpInfo .NotEq).2.1 (.ref b)) (fun r s' => r = some (.bool (!β)) ∧ ∃ H', Inv X pins σ H' s' ∧ Same H H') X.xe s := by
    unfold tryCompare
    refine wpAny_bind (bound_ne XK J hn (wpAny_mono one (fun v s' hv => ?_) fun _ _ e => e))
    obtain ⟨rfl, hv⟩ := hv
    exact wpAny_pure ⟨rfl, hv⟩
  show wpAny (model X.prog X.w) X.A (richCompare .NotEq (.ref a) (.ref b)) _ X.xe s
  unfold richCompare
  simp only [oneThing_ref]
  refine wpAny_holding (wpAny_bind (wpAny_cRoomFor sb.room.units0 (wpAny_bind (J.type.here (wpAny_bind (J'.type.here ?_))))))
  split
  · rename_i z
    simp at z
  · refine wpAny_bind (wpAny_pure ?_)
    simp only [Bool.false_eq_true, if_false]
    refine wpAny_bind (wpAny_mono two (fun r s' z => ?_) fun _ _ e => e)
    obtain ⟨rfl, H', I', sm⟩ := z
    have := q H' sm
    exact wpAny_pure ⟨.bl (!β), H', I', rfl, by cases β <;> exact this⟩
end
end NW
namespace NW
open PySem PySem.Spec PyProof.Rows L2
section
variable {ks ks' ks2 ks3 ks4 : List KRow} {fs fs' fs2 fs3 fs4 : List FRow} {us : List URow} {g root : Str} {v v0 : V} {sh s0 : Shp} {S T : Str → Prop}
theorem reK_ex (S : Str → Prop) (g : Str) (v : V) (sh : Shp) (ks : List KRow) : ∃ ks2, ReK S g v sh ks ks2 := by
  classical
  refine ⟨ks.map fun k => if S k.nm then { k with fds := putF k.fds g v sh } else k, List.length_map .., fun i k k2 e e2 => ?_⟩
  rw [List.getElem?_map, e] at e2
  have e3 : (if S k.nm then ({ k with fds := putF k.fds g v sh } : KRow) else k) = k2 := by injection e2
  by_cases h : S k.nm
  · rw [if_pos h] at e3
    subst e3
    exact ⟨rfl, rfl, fun _ => rfl, fun z => absurd h z⟩
  · rw [if_neg h] at e3
    subst e3
    exact ⟨rfl, rfl, fun z => absurd z h, fun _ => rfl⟩
theorem reF_ex (T : Str → Prop) (g : Str) (v : V) (sh : Shp) (fs : List FRow) : ∃ fs2, ReF T g v sh fs fs2 := by
  classical
  refine ⟨fs.map fun k => if T k.nm then { k with fds := putF k.fds g v sh } else k, List.length_map .., fun i k k2 e e2 => ?_⟩
  rw [List.getElem?_map, e] at e2
  have e3 : (if T k.nm then ({ k with fds := putF k.fds g v sh } : FRow) else k) = k2 := by injection e2
  by_cases h : T k.nm
  · rw [if_pos h] at e3
    subst e3
    exact ⟨rfl, fun _ => rfl, fun z => absurd h z⟩
  · rw [if_neg h] at e3
    subst e3
    exact ⟨rfl, fun z => absurd z h, fun _ => rfl⟩
theorem ReF.names' (h : ReF T g v sh fs fs') : fs'.map (·.nm) = fs.map (·.nm) := h.names
theorem ReK.hasFc (h : ReK S g v sh ks ks') {fc z : Str} : HasFc ks' fc z ↔ HasFc ks fc z := by
  constructor
  · rintro ⟨k, m, e, c⟩
    obtain ⟨k2, m2, e1, e2, _⟩ := h.back m
    exact ⟨k2, m2, e1.symm.trans e, e2 ▸ c⟩
  · rintro ⟨k, m, e, c⟩
    obtain ⟨k2, m2, e1, e2, _⟩ := h.fwd m
    exact ⟨k2, m2, e1.trans e, e2 ▸ c⟩
theorem ReF.fwd (h : ReF T g v sh fs fs') {k : FRow} (m : k ∈ fs) : ∃ k' ∈ fs', k'.nm = k.nm ∧ (T k.nm → k'.fds = putF k.fds g v sh) ∧ (¬ T k.nm → k'.fds = k.fds) := by
  obtain ⟨i, hi⟩ := List.getElem?_of_mem m
  obtain ⟨b, eb⟩ := at_len h.1 hi
  exact ⟨b, List.mem_of_getElem? eb, h.2 i k b hi eb⟩
theorem ReF.faceHas (h : ReF T g v sh fs fs') {x fc : Str} : FaceHas fs' x fc ↔ FaceHas fs x fc := by
  constructor
  · rintro ⟨k, m, e, c⟩
    obtain ⟨k2, m2, e1, e2⟩ := h.fnames m
    exact ⟨k2, m2, e1.symm.trans e, e2 ▸ c⟩
  · rintro ⟨k, m, e, c⟩
    obtain ⟨k2, m2, e1, h1, h2⟩ := h.fwd m
    refine ⟨k2, m2, e1.trans e, ?_⟩
    rcases Classical.em (T k.nm) with hT | hT
    · rw [h1 hT, putF_names]; exact c
    · rw [h2 hT]; exact c
theorem reLk (hk : ReK S g v sh ks ks') (hf : ReF T g v sh fs fs') {x z a : Str} : Lk ks' fs' x z a ↔ Lk ks fs x z a := by
  constructor
  · intro h
    induction h with
    | base => exact .base
    | step _ s ih =>
      obtain ⟨fc, c1, c2, c3⟩ := s
      exact ih.step ⟨fc, hk.hasFc.mp c1, hf.faceHas.mp c2, hk.hasFc.mp c3⟩
  · intro h
    induction h with
    | base => exact .base
    | step _ s ih =>
      obtain ⟨fc, c1, c2, c3⟩ := s
      exact ih.step ⟨fc, hk.hasFc.mpr c1, hf.faceHas.mpr c2, hk.hasFc.mpr c3⟩
theorem EqFds.refl (fds : List Fld) : EqFds fds fds := ⟨rfl, fun i f f' e e' => by
  rw [e] at e'
  cases e'
  exact ⟨rfl, rfl⟩⟩
/-- put back to the shape that it had -/
theorem EqFds.back {fds : List Fld} (h : ∀ f ∈ fds, f.1 = g → f.2.2 = s0) : EqFds (putF (putF fds g v sh) g v0 s0) fds := by
  have e0 : putF (putF fds g v sh) g v0 s0 = putF fds g v0 s0 := by
    unfold putF
    rw [List.map_map]
    refine List.map_congr_left fun f _ => ?_
    show (if (if f.1 = g then (g, v, sh) else f).1 = g then (g, v0, s0) else (if f.1 = g then (g, v, sh) else f)) = _
    by_cases e : f.1 = g
    · rw [if_pos e, if_pos e]; exact if_pos rfl
    · rw [if_neg e, if_neg e]
  rw [e0]
  refine ⟨(putF_len fds).symm, fun i f f' e e' => ?_⟩
  unfold putF at e
  rw [List.getElem?_map, e'] at e
  have e3 : (if f'.1 = g then ((g, v0, s0) : Fld) else f') = f := by injection e
  by_cases hg : f'.1 = g
  · rw [if_pos hg] at e3
    subst e3
    exact ⟨hg, h f' (List.mem_of_getElem? e') hg⟩
  · rw [if_neg hg] at e3
    subst e3
    exact ⟨rfl, rfl⟩
theorem eqK_back (ok : SchOk ks fs us root) {z z2 : Str} (h0 : FShp ks z g s0) (h2 : Lk ks fs g z z2) (rk : ReK (Lk ks fs g z) g v sh ks ks3) (rf : ReF T g v sh fs fs3) (rk4 : ReK (Lk ks3 fs3 g z2) g v0 s0 ks3 ks4) : EqK ks4 ks := by
  refine ⟨by rw [rk4.1, rk.1], fun i k4 k e4 e => ?_⟩
  obtain ⟨k3, e3⟩ := at_len rk.1 e
  obtain ⟨a1, a2, a3, a4⟩ := rk.2 i k k3 e e3
  obtain ⟨b1, b2, b3, b4⟩ := rk4.2 i k3 k4 e3 e4
  have m := List.mem_of_getElem? e
  have iff : Lk ks3 fs3 g z2 k3.nm ↔ Lk ks fs g z k.nm := by
    rw [reLk rk rf, a1]
    exact ⟨fun h => h2.trans h, fun h => h2.symm.trans h⟩
  refine ⟨(b1.trans a1).symm, by rw [b2, a2], ?_⟩
  rcases Classical.em (Lk ks fs g z k.nm) with hL | hL
  · rw [b3 (iff.mpr hL), a3 hL]
    refine EqFds.back fun f mf ef => ?_
    obtain ⟨k', mk', ek', f', mf', ef', es'⟩ := FShp.link ok h0 hL
    cases KRow.uniq' ok.ndk mk' m ek'
    cases fld_uniq (ok.kd k m).nd mf' mf (ef'.trans ef.symm)
    exact es'
  · rw [b4 (fun h => hL (iff.mp h)), a4 hL]
    exact EqFds.refl _
theorem eqF_back (ok : SchOk ks fs us root) {z z2 : Str} (h0 : FShp ks z g s0) (h2 : Lk ks fs g z z2) (rk : ReK (Lk ks fs g z) g v sh ks ks3) (rf : ReF (hitF ks fs g z) g v sh fs fs3) (rf4 : ReF (hitF ks3 fs3 g z2) g v0 s0 fs3 fs4) : EqF fs4 fs := by
  refine ⟨by rw [rf4.1, rf.1], fun i k4 k e4 e => ?_⟩
  obtain ⟨k3, e3⟩ := at_len rf.1 e
  obtain ⟨a1, a3, a4⟩ := rf.2 i k k3 e e3
  obtain ⟨b1, b3, b4⟩ := rf4.2 i k3 k4 e3 e4
  have m := List.mem_of_getElem? e
  have iff : hitF ks3 fs3 g z2 k3.nm ↔ hitF ks fs g z k.nm := by
    rw [a1]
    constructor
    · rintro ⟨a, h, c⟩
      exact ⟨a, h2.trans ((reLk rk rf).mp h), rk.hasFc.mp c⟩
    · rintro ⟨a, h, c⟩
      exact ⟨a, (reLk rk rf).mpr (h2.symm.trans h), rk.hasFc.mpr c⟩
  refine ⟨(b1.trans a1).symm, ?_⟩
  rcases Classical.em (hitF ks fs g z k.nm) with hL | hL
  · rw [b3 (iff.mpr hL), a3 hL]
    refine EqFds.back fun f mf ef => ?_
    obtain ⟨a, hl, k', mk', ek', c⟩ := hL
    obtain ⟨k2, mk2, ek2, f2, mf2, ef2, es2⟩ := FShp.link ok h0 hl
    cases KRow.uniq' ok.ndk mk2 mk' (ek2.trans ek'.symm)
    obtain ⟨y, my, ey1, ey2⟩ := ok.ff k m k' mk' c f mf
    cases fld_uniq (ok.kd k' mk').nd mf2 my (ef2.trans (ey1.trans ef).symm)
    exact ey2.symm.trans es2
  · rw [b4 (fun h => hL (iff.mp h)), a4 hL]
    exact EqFds.refl _
theorem re_bs (rk : ReK S g v sh ks ks3) (rf : ReF T g v sh fs fs3) : bsOf ks3 fs3 us = bsOf ks fs us := by
  unfold bsOf
  rw [rk.names, rf.names]
/-- the field is there still -/
theorem re_has (ok : SchOk ks fs us root) {z a : Str} (h : FShp ks z g s0) (l : Lk ks fs g z a) (rk : ReK S g v sh ks ks3) : ∃ k ∈ ks3, k.nm = a ∧ g ∈ k.fds.map (·.1) := by
  obtain ⟨k, mk, ek, f, mf, ef, _⟩ := FShp.link ok h l
  obtain ⟨k3, m3, e3, _⟩ := rk.fwd mk
  obtain ⟨k', mk', e', en⟩ := rk.fnames m3
  cases KRow.uniq' ok.ndk mk' mk (e'.symm.trans e3)
  exact ⟨k3, m3, e3.trans ek, by rw [en]; exact List.mem_map.mpr ⟨f, mf, ef⟩⟩
end
end NW
namespace NW
open PySem PySem.Spec PyProof.Rows L2
/-! ### == of dicts of any keys, in any order -/
def CmpG (K : PySem.W.Frag) (H : Hp) (F : V → V → Bool → Prop) (x y : V) (β : Bool) : Prop :=
  (∃ a b xs ys e, x = .ref a ∧ y = .ref b ∧ H a = some (.tup xs) ∧ H b = some (.tup ys) ∧ xs.length = ys.length ∧ (∀ (i : Nat) u v, xs[i]? = some u → ys[i]? = some v → F u v (e i)) ∧ β = (List.range xs.length).all e) ∨
    ∃ a b kvs lvs e, x = .ref a ∧ y = .ref b ∧ H a = some (.dK kvs) ∧ H b = some (.dK lvs) ∧ (∀ (i : Nat) kv, kvs[i]? = some kv → (valV lvs kv.1 = none ∧ e i = false) ∨ ∃ u, valV lvs kv.1 = some u ∧ F kv.2 u (e i)) ∧ β = (kvs.length == lvs.length && (List.range kvs.length).all e)
def GmpW (K : PySem.W.Frag) (H : Hp) : Nat → V → V → Bool → Prop
  | 0, x, y, β => ∃ d e, Dp K H x d ∧ Dp K H y e ∧ SeqAt.shaped d = true ∧ SeqAt.shaped e = true ∧ β = PyData.eqv d e
  | n + 1, x, y, β => GmpW K H n x y β ∨ (CmpG K H (GmpW K H n) x y β ∧ (x = y → β = true))
section
variable {X : Cx} {pins : List (Addr × Obj)} {σ : L2.St} {H : Hp} {s : Shared}
theorem hits_cmpG {P : Program} {w : World} {A : Around} {F : V → V → Bool → Prop} (ih : ∀ x y β v u, F x y β → RelV x v → RelV y u → SeqAt.EqP P w A s v u β) {ls : List (Key × V)} {vb : List (Key × Value)} (rb : KV ls vb) : ∀ {ks : List (Key × V)} {va : List (Key × Value)},
    KV ks va → ∀ (e : Nat → Bool), (∀ (i : Nat) kv, ks[i]? = some kv → (valV ls kv.1 = none ∧ e i = false) ∨ ∃ u, valV ls kv.1 = some u ∧ F kv.2 u (e i)) → PySem.W.KeqHitsP P w A s vb va ((List.range ks.length).all e) := by
  intro ks va ra
  unfold KV at ra
  induction ra with
  | nil => intro e _; exact .nil
  | @cons p q ps qs h t k =>
    intro e hp
    obtain ⟨h1, h2⟩ := h
    obtain ⟨key, v⟩ := q
    obtain rfl : p.1 = key := h1
    rcases hp 0 p rfl with ⟨en, e0⟩ | ⟨u, eu, f⟩
    · have rr : RelO none (valueAt vb p.1) := by rw [← en]; exact rb.val p.1
      have hn : valueAt vb p.1 = none := by
        cases ev : valueAt vb p.1 with
        | none => rfl
        | some z => rw [ev] at rr; exact (show False from rr).elim
      rw [List.length_cons, all_range_cons, e0, Bool.false_and]
      exact .miss hn
    · have rr : RelO (some u) (valueAt vb p.1) := by rw [← eu]; exact rb.val p.1
      obtain ⟨y, hy, ry⟩ := rr.some_of
      rw [List.length_cons, all_range_cons]
      exact .hit hy (ih _ _ _ _ _ f h2 ry) (k _ fun i kv ei => hp (i + 1) kv ei)
theorem cmpG_run (I : Inv X pins σ H s) {A : Around} {F : V → V → Bool → Prop} (hu : A.units < cLine) (ih : ∀ x y β v u, F x y β → RelV x v → RelV y u → SeqAt.EqP X.prog X.w A.in1 s v u β) {x y : V} {β : Bool} {v u : Value} (h : CmpG X.K H F x y β) (rx : RelV x v) (ry : RelV y u)
    (E Q : Value → Shared → Prop) (q : Q (.bool β) s) : wpAny (model X.prog X.w) A (richCompare .Eq v u) Q E s := by
  rcases h with ⟨a, b, xs, ys, e, rfl, rfl, ha, hb, hl, hp, rfl⟩ | ⟨a, b, kvs, lvs, e, rfl, rfl, ha, hb, hp, rfl⟩
  · exact cmpTD_run I hu ih (.inl ⟨a, b, xs, ys, e, rfl, rfl, ha, hb, hl, hp, rfl⟩) rx ry E Q q
  · obtain rfl : v = Value.ref a := rx
    obtain rfl : u = Value.ref b := ry
    obtain ⟨_, la, va, ra, da⟩ := (show ObjOk X.prog X.w H s.heap a (.dK kvs) from I.hok a _ ha)
    obtain ⟨_, lb, vb, rb, db⟩ := (show ObjOk X.prog X.w H s.heap b (.dK lvs) from I.hok b _ hb)
    have hits := hits_cmpG ih rb ra e hp
    exact PySem.W.rcP_dicts (knd := mixKind X.prog X.w) la lb da db hu (fun _ => hits) E Q (by rw [← Paired.length ra, ← Paired.length rb]; exact q)
theorem gmpW_run (I : Inv X pins σ H s) : ∀ (n : Nat) (A : Around), A.units + n + 64 < cLine → ∀ (x y : V) (β : Bool) (v u : Value), GmpW X.K H n x y β → RelV x v → RelV y u → SeqAt.EqP X.prog X.w A s v u β := by
  intro n
  induction n with
  | zero =>
    intro A hu x y β v u h rx ry
    exact cmpW_run I 0 A hu x y β v u h rx ry
  | succ n ih =>
    intro A hu x y β v u h rx ry
    rcases h with h | ⟨h, one⟩
    · exact ih A (by omega) x y β v u h rx ry
    · have turn := cmpG_run I (A := A) (by omega) (ih A.in1 (by show A.units + 1 + n + 64 < cLine; omega)) h rx ry
      have hab : ∃ a b, x = .ref a ∧ y = .ref b ∧ v = .ref a ∧ u = .ref b := by
        rcases h with ⟨a, b, _, _, _, rfl, rfl, _⟩ | ⟨a, b, _, _, _, rfl, rfl, _⟩
        · exact ⟨a, b, rfl, rfl, rx, ry⟩
        · exact ⟨a, b, rfl, rfl, rx, ry⟩
      obtain ⟨a, b, rfl, rfl, rfl, rfl⟩ := hab
      by_cases e : a = b
      · rw [one (by rw [e]), e]
        exact (SeqAt.EqAt.same _).eqP
      · exact SeqAt.eqP_refs e turn
end
def rCmpG (K : PySem.W.Frag) : R2 := fun x y H Q => ∃ n β, n ≤ 40 ∧ CmpG K H (GmpW K H n) x y β ∧ Q (.bl β) H
theorem op_cmpG {X : Cx} (hu : X.A.units + 128 < cLine) : OpR X (compareOp .Eq) (rCmpG X.K) := by
  intro pins s σ H x y v u Q I rx ry h
  obtain ⟨n, β, hn, h, q⟩ := h
  exact cmpG_run I (A := X.A) (by omega) (gmpW_run I n X.A.in1 (by show X.A.units + 1 + n + 64 < cLine; omega)) h rx ry _ _ ⟨.bl β, H, I, rfl, q⟩
/-! ### two rows of one content -/
theorem nd_perm {l m : List Str} (nl : l.Nodup) (nm : m.Nodup) (hl : l.length = m.length) (h : ∀ x ∈ l, x ∈ m) : l.Perm m := by
  refine (List.perm_ext_iff_of_nodup nl nm).mpr fun x => ⟨h x, fun hx => ?_⟩
  refine Classical.byContradiction fun hn => ?_
  have := nd_len (l := x :: l) (m := m) (List.nodup_cons.mpr ⟨hn, nl⟩) fun y hy => by
    rcases List.mem_cons.mp hy with rfl | hy
    · exact hx
    · exact h y hy
  rw [List.length_cons] at this
  omega
open Classical in
theorem dict_dec {α β : Type} {A : List α} {B : List β} {f : α → Str} {g : β → Str} (na : (A.map f).Nodup) (nb : (B.map g).Nodup) {R : α → β → Prop} {e : Nat → Bool}
    (he : ∀ (i : Nat) (a : α), A[i]? = some a → (f a ∉ B.map g ∧ e i = false) ∨ ∃ b ∈ B, g b = f a ∧ e i = decide (R a b)) :
    (A.length == B.length && (List.range A.length).all e) = decide ((A.map f).Perm (B.map g) ∧ ∀ a ∈ A, ∀ b ∈ B, f a = g b → R a b) := by
  rw [Bool.eq_iff_iff, Bool.and_eq_true, beq_iff_eq, decide_eq_true_iff, List.all_eq_true]
  constructor
  · rintro ⟨hl, h⟩
    have h' : ∀ (i : Nat) (a : α), A[i]? = some a → ∃ b ∈ B, g b = f a ∧ R a b := by
      intro i a ea
      have hi := (List.getElem?_eq_some_iff.mp ea).1
      have ht := h i (List.mem_range.mpr hi)
      rcases he i a ea with ⟨_, z⟩ | ⟨b, mb, eb, z⟩
      · rw [z] at ht; cases ht
      · rw [z] at ht
        exact ⟨b, mb, eb, of_decide_eq_true ht⟩
    refine ⟨nd_perm na nb (by rw [List.length_map, List.length_map, hl]) fun x hx => ?_, fun a ma b mb eb => ?_⟩
    · obtain ⟨a, ma, rfl⟩ := List.mem_map.mp hx
      obtain ⟨i, ei⟩ := List.getElem?_of_mem ma
      obtain ⟨b, mb, eb, _⟩ := h' i a ei
      exact List.mem_map.mpr ⟨b, mb, eb⟩
    · obtain ⟨i, ei⟩ := List.getElem?_of_mem ma
      obtain ⟨b', mb', eb', r⟩ := h' i a ei
      rw [map_uniq nb mb mb' (eb.symm.trans eb'.symm)]
      exact r
  · rintro ⟨hp, h⟩
    have hl : A.length = B.length := by
      have := hp.length_eq
      rw [List.length_map, List.length_map] at this
      exact this
    refine ⟨hl, fun i hi => ?_⟩
    have hi' := List.mem_range.mp hi
    have ei := List.getElem?_eq_getElem hi'
    have ma := List.mem_of_getElem? ei
    rcases he i _ ei with ⟨z, _⟩ | ⟨b, mb, eb, z⟩
    · exact absurd (hp.mem_iff.mp (List.mem_map.mpr ⟨_, ma, rfl⟩)) z
    · rw [z]
      exact decide_eq_true (h _ ma b mb eb.symm)
def FdsE (a b : List Fld) : Prop := (a.map (·.1)).Perm (b.map (·.1)) ∧ ∀ f ∈ a, ∀ g ∈ b, f.1 = g.1 → f.2.2 = g.2.2
def KsE (a b : List KRow) : Prop := (a.map (·.nm)).Perm (b.map (·.nm)) ∧ ∀ k ∈ a, ∀ l ∈ b, k.nm = l.nm → k.fcs.Perm l.fcs ∧ FdsE k.fds l.fds
def FsE (a b : List FRow) : Prop := (a.map (·.nm)).Perm (b.map (·.nm)) ∧ ∀ k ∈ a, ∀ l ∈ b, k.nm = l.nm → FdsE k.fds l.fds
def UsE (a b : List URow) : Prop := (a.map (·.nm)).Perm (b.map (·.nm)) ∧ ∀ k ∈ a, ∀ l ∈ b, k.nm = l.nm → k.ms.Perm l.ms
def SchE (ks : List KRow) (fs : List FRow) (us : List URow) (root : Str) (ks' : List KRow) (fs' : List FRow) (us' : List URow) (root' : Str) : Prop := KsE ks ks' ∧ FsE fs fs' ∧ UsE us us' ∧ root = root'
theorem FdsE.symm {a b : List Fld} (h : FdsE a b) : FdsE b a := ⟨h.1.symm, fun f mf g mg e => (h.2 g mg f mf e.symm).symm⟩
theorem FdsE.trans {a b c : List Fld} (h : FdsE a b) (k : FdsE b c) : FdsE a c := ⟨h.1.trans k.1, fun f mf g mg e => by
  obtain ⟨y, my, ey⟩ := List.mem_map.mp (h.1.mem_iff.mp (List.mem_map.mpr ⟨f, mf, rfl⟩))
  exact (h.2 f mf y my ey.symm).trans (k.2 y my g mg (ey.trans e))⟩
theorem FdsE.refl {a : List Fld} (nd : (a.map (·.1)).Nodup) : FdsE a a := ⟨.refl _, fun f mf g mg e => by rw [map_uniq nd mf mg e]⟩
theorem KsE.symm {a b : List KRow} (h : KsE a b) : KsE b a := ⟨h.1.symm, fun f mf g mg e => let r := h.2 g mg f mf e.symm; ⟨r.1.symm, r.2.symm⟩⟩
theorem KsE.trans {a b c : List KRow} (h : KsE a b) (k : KsE b c) : KsE a c := ⟨h.1.trans k.1, fun f mf g mg e => by
  obtain ⟨y, my, ey⟩ := List.mem_map.mp (h.1.mem_iff.mp (List.mem_map.mpr ⟨f, mf, rfl⟩))
  have r1 := h.2 f mf y my ey.symm
  have r2 := k.2 y my g mg (ey.trans e)
  exact ⟨r1.1.trans r2.1, r1.2.trans r2.2⟩⟩
theorem FsE.symm {a b : List FRow} (h : FsE a b) : FsE b a := ⟨h.1.symm, fun f mf g mg e => (h.2 g mg f mf e.symm).symm⟩
theorem FsE.trans {a b c : List FRow} (h : FsE a b) (k : FsE b c) : FsE a c := ⟨h.1.trans k.1, fun f mf g mg e => by
  obtain ⟨y, my, ey⟩ := List.mem_map.mp (h.1.mem_iff.mp (List.mem_map.mpr ⟨f, mf, rfl⟩))
  exact (h.2 f mf y my ey.symm).trans (k.2 y my g mg (ey.trans e))⟩
theorem UsE.symm {a b : List URow} (h : UsE a b) : UsE b a := ⟨h.1.symm, fun f mf g mg e => (h.2 g mg f mf e.symm).symm⟩
theorem UsE.trans {a b c : List URow} (h : UsE a b) (k : UsE b c) : UsE a c := ⟨h.1.trans k.1, fun f mf g mg e => by
  obtain ⟨y, my, ey⟩ := List.mem_map.mp (h.1.mem_iff.mp (List.mem_map.mpr ⟨f, mf, rfl⟩))
  exact (h.2 f mf y my ey.symm).trans (k.2 y my g mg (ey.trans e))⟩
section
variable {ks ks' ks2 : List KRow} {fs fs' fs2 : List FRow} {us us' us2 : List URow} {root root' root2 : Str}
theorem SchE.symm (h : SchE ks fs us root ks' fs' us' root') : SchE ks' fs' us' root' ks fs us root := ⟨h.1.symm, h.2.1.symm, h.2.2.1.symm, h.2.2.2.symm⟩
theorem SchE.trans (h : SchE ks fs us root ks' fs' us' root') (k : SchE ks' fs' us' root' ks2 fs2 us2 root2) : SchE ks fs us root ks2 fs2 us2 root2 := ⟨h.1.trans k.1, h.2.1.trans k.2.1, h.2.2.1.trans k.2.2.1, h.2.2.2.trans k.2.2.2⟩
theorem RelK.e (nd : (ks.map (·.nm)).Nodup) (nf : ∀ k ∈ ks, (k.fds.map (·.1)).Nodup) (h : RelK ks ks') : KsE ks ks' := by
  refine ⟨by rw [h.names'], fun k mk l ml e => ?_⟩
  obtain ⟨i, ei⟩ := List.getElem?_of_mem ml
  obtain ⟨k2, e2⟩ := at_len h.1.symm ei
  obtain ⟨a1, a2, a3, a4⟩ := h.2 i k2 l e2 ei
  have : k = k2 := map_uniq nd mk (List.mem_of_getElem? e2) (e.trans a1)
  subst this
  rw [a4]
  exact ⟨a2.symm, .refl (nf k mk)⟩
theorem RelF.e (nd : (fs.map (·.nm)).Nodup) (nf : ∀ k ∈ fs, (k.fds.map (·.1)).Nodup) (h : RelF fs fs') : FsE fs fs' := by
  refine ⟨by rw [h.names'], fun k mk l ml e => ?_⟩
  obtain ⟨i, ei⟩ := List.getElem?_of_mem ml
  obtain ⟨k2, e2⟩ := at_len h.1.symm ei
  obtain ⟨a1, a4⟩ := h.2 i k2 l e2 ei
  have : k = k2 := map_uniq nd mk (List.mem_of_getElem? e2) (e.trans a1)
  subst this
  rw [a4]
  exact .refl (nf k mk)
theorem RelU.e (nd : (us.map (·.nm)).Nodup) (h : RelU us us') : UsE us us' := by
  refine ⟨by rw [h.names'], fun k mk l ml e => ?_⟩
  obtain ⟨i, ei⟩ := List.getElem?_of_mem ml
  obtain ⟨k2, e2⟩ := at_len h.1.symm ei
  obtain ⟨a1, a2, a3⟩ := h.2 i k2 l e2 ei
  have : k = k2 := map_uniq nd mk (List.mem_of_getElem? e2) (e.trans a1)
  subst this
  exact a2.symm
end
end NW
namespace NW
open PySem PySem.Spec PyProof.Rows L2
open TL (tl)
open StX (pa_star)
abbrev s_Schema_eq : Stmt := inClass (topS 35) 1
abbrev N_Schema_eq : List Str := ["self", "other"]
theorem sc_Schema_eq : FnScope N_Schema_eq ["self", "other"] (defScope s_Schema_eq) := ⟨rfl, rfl, rfl, by decide +kernel, rfl, by decide +kernel, by decide +kernel⟩
/-! ### shapes are one, if they are equal -/
theorem shD_eqv : ∀ {s t : Shp}, PyData.eqv (shD s) (shD t) = decide (s = t) := by
  intro s
  induction s with
  | base z =>
    intro t
    cases t with
    | base y =>
      show (z == y) = decide (Shp.base z = Shp.base y)
      rw [Bool.eq_iff_iff]
      simp
    | sure t => exact (decide_eq_false (by simp)).symm
    | list t => exact (decide_eq_false (by simp)).symm
  | sure s ih =>
    intro t
    cases t with
    | base y => exact (decide_eq_false (by simp)).symm
    | sure t =>
      show ((("sure" : Str) == ("sure" : Str)) && (PyData.eqv (shD s) (shD t) && true)) = _
      rw [ih, Bool.eq_iff_iff]
      simp
    | list t =>
      show ((("sure" : Str) == ("list" : Str)) && (PyData.eqv (shD s) (shD t) && true)) = _
      rw [show (("sure" : Str) == ("list" : Str)) = false by decide +kernel]
      exact (decide_eq_false (by simp)).symm
  | list s ih =>
    intro t
    cases t with
    | base y => exact (decide_eq_false (by simp)).symm
    | sure t =>
      show ((("list" : Str) == ("sure" : Str)) && (PyData.eqv (shD s) (shD t) && true)) = _
      rw [show (("list" : Str) == ("sure" : Str)) = false by decide +kernel]
      exact (decide_eq_false (by simp)).symm
    | list t =>
      show ((("list" : Str) == ("list" : Str)) && (PyData.eqv (shD s) (shD t) && true)) = _
      rw [ih, Bool.eq_iff_iff]
      simp
theorem ShAt.inj {H : Hp} : ∀ {s t : Shp} {v : V}, ShAt H v s → ShAt H v t → s = t := by
  intro s
  induction s with
  | base z =>
    rintro t v rfl h
    cases t with
    | base y =>
      have e : V.str z = .str y := h
      cases e
      rfl
    | sure t => obtain ⟨_, _, e, _⟩ := h; cases e
    | list t => obtain ⟨_, _, e, _⟩ := h; cases e
  | sure s ih =>
    rintro t v ⟨a, u, rfl, ha, hu⟩ h
    cases t with
    | base y => cases (show V.ref a = .str y from h)
    | sure t =>
      obtain ⟨a', u', e, ha', hu'⟩ := h
      cases e
      rw [ha] at ha'
      injection ha' with ha'
      injection ha' with ha'
      cases ha'
      rw [ih hu hu']
    | list t =>
      obtain ⟨a', u', e, ha', hu'⟩ := h
      cases e
      rw [ha] at ha'
      injection ha' with ha'
      injection ha' with ha'
      injection ha' with e1 _
      exact absurd e1 (by decide +kernel)
  | list s ih =>
    rintro t v ⟨a, u, rfl, ha, hu⟩ h
    cases t with
    | base y => cases (show V.ref a = .str y from h)
    | list t =>
      obtain ⟨a', u', e, ha', hu'⟩ := h
      cases e
      rw [ha] at ha'
      injection ha' with ha'
      injection ha' with ha'
      cases ha'
      rw [ih hu hu']
    | sure t =>
      obtain ⟨a', u', e, ha', hu'⟩ := h
      cases e
      rw [ha] at ha'
      injection ha' with ha'
      injection ha' with ha'
      injection ha' with e1 _
      exact absurd e1 (by decide +kernel)
/-! ### the same names; whether the shapes are the same, too -/
def shB (fds fds' : List Fld) (i : Nat) : Bool := match fds[i]?, fds'[i]? with
  | some f, some f' => decide (f.2.2 = f'.2.2)
  | _, _ => true
def fdB (fds fds' : List Fld) : Bool := (List.range fds.length).all (shB fds fds')
def kB1 (ks ks' : List KRow) (i : Nat) : Bool := match ks[i]?, ks'[i]? with
  | some f, some f' => fdB f.fds f'.fds
  | _, _ => true
def kB (ks ks' : List KRow) : Bool := (List.range ks.length).all (kB1 ks ks')
def fB1 (ks ks' : List FRow) (i : Nat) : Bool := match ks[i]?, ks'[i]? with
  | some f, some f' => fdB f.fds f'.fds
  | _, _ => true
def fB (ks ks' : List FRow) : Bool := (List.range ks.length).all (fB1 ks ks')
def SkK (ks ks' : List KRow) : Prop := ks'.length = ks.length ∧ ∀ (i : Nat) (k k' : KRow), ks[i]? = some k → ks'[i]? = some k' → k'.nm = k.nm ∧ k'.fcs.Perm k.fcs ∧ k'.fds.map (·.1) = k.fds.map (·.1)
def SkF (ks ks' : List FRow) : Prop := ks'.length = ks.length ∧ ∀ (i : Nat) (k k' : FRow), ks[i]? = some k → ks'[i]? = some k' → k'.nm = k.nm ∧ k'.fds.map (·.1) = k.fds.map (·.1)
theorem sh_at {fds fds' : List Fld} {i : Nat} {f f' : Fld} (e : fds[i]? = some f) (e' : fds'[i]? = some f') : shB fds fds' i = decide (f.2.2 = f'.2.2) := by
  unfold shB; rw [e, e']
theorem kB_at {fds fds' : List KRow} {i : Nat} {f f' : KRow} (e : fds[i]? = some f) (e' : fds'[i]? = some f') : kB1 fds fds' i = fdB f.fds f'.fds := by
  unfold kB1; rw [e, e']
theorem fB_at {fds fds' : List FRow} {i : Nat} {f f' : FRow} (e : fds[i]? = some f) (e' : fds'[i]? = some f') : fB1 fds fds' i = fdB f.fds f'.fds := by
  unfold fB1; rw [e, e']
theorem range_all {n : Nat} {e : Nat → Bool} : (List.range n).all e = true ↔ ∀ i, i < n → e i = true := by
  rw [List.all_eq_true]
  simp
theorem fdB_true {fds fds' : List Fld} (h : fds'.length = fds.length) : fdB fds fds' = true ↔ ∀ (i : Nat) f f', fds[i]? = some f → fds'[i]? = some f' → f.2.2 = f'.2.2 := by
  unfold fdB
  rw [range_all]
  constructor
  · intro k i f f' e e'
    have := k i (List.getElem?_eq_some_iff.mp e).1
    rw [sh_at e e'] at this
    exact of_decide_eq_true this
  · intro k i hi
    have e := List.getElem?_eq_getElem hi
    have e' := List.getElem?_eq_getElem (show i < fds'.length by omega)
    rw [sh_at e e']
    exact decide_eq_true (k i _ _ e e')
theorem kB_true {ks ks' : List KRow} (h : ks'.length = ks.length) : kB ks ks' = true ↔ ∀ (i : Nat) k k', ks[i]? = some k → ks'[i]? = some k' → fdB k.fds k'.fds = true := by
  unfold kB
  rw [range_all]
  constructor
  · intro k i f f' e e'
    have := k i (List.getElem?_eq_some_iff.mp e).1
    rw [kB_at e e'] at this
    exact this
  · intro k i hi
    have e := List.getElem?_eq_getElem hi
    have e' := List.getElem?_eq_getElem (show i < ks'.length by omega)
    rw [kB_at e e']
    exact k i _ _ e e'
theorem fB_true {ks ks' : List FRow} (h : ks'.length = ks.length) : fB ks ks' = true ↔ ∀ (i : Nat) k k', ks[i]? = some k → ks'[i]? = some k' → fdB k.fds k'.fds = true := by
  unfold fB
  rw [range_all]
  constructor
  · intro k i f f' e e'
    have := k i (List.getElem?_eq_some_iff.mp e).1
    rw [fB_at e e'] at this
    exact this
  · intro k i hi
    have e := List.getElem?_eq_getElem hi
    have e' := List.getElem?_eq_getElem (show i < ks'.length by omega)
    rw [fB_at e e']
    exact k i _ _ e e'
theorem map_len {α β : Type} {f : α → β} {l m : List α} (h : m.map f = l.map f) : m.length = l.length := by
  have := congrArg List.length h
  rw [List.length_map, List.length_map] at this
  exact this
theorem map_at {α β : Type} {f : α → β} {l m : List α} (h : m.map f = l.map f) {i : Nat} {a b : α} (e : l[i]? = some a) (e' : m[i]? = some b) : f b = f a := by
  have := congrArg (fun z => z[i]?) h
  simp only [List.getElem?_map, e, e', Option.map_some] at this
  exact Option.some.inj this
section
variable {K : PySem.W.Frag} {H : Hp}
theorem strs_dp : ∀ {l : List Str}, DpAll K H (l.map V.str) (l.map PyData.str)
  | [] => .nil
  | z :: r => .cons (.str z) strs_dp
theorem strs_lay {l : List Str} (h : ∀ z ∈ l, PyData.strOk z = true) : PyData.canLayAll0 (l.map PyData.str) = true ∧ PyData.depthAll (l.map PyData.str) ≤ 1 := by
  induction l with
  | nil => exact ⟨rfl, Nat.zero_le _⟩
  | cons z r ih =>
    have i := ih fun y m => h y (List.mem_cons_of_mem _ m)
    have hz := h z List.mem_cons_self
    simp only [List.map_cons, PyData.canLayAll0, PyData.depthAll, PyData.canLay0, PyData.depth, hz, i.1, Bool.and_self, true_and]
    have := i.2
    omega
theorem CmpW.strs {a b : Addr} {l : List Str} (h : ∀ z ∈ l, PyData.strOk z = true) (ha : H a = some (.tup (l.map V.str))) (hb : H b = some (.tup (l.map V.str))) : ∀ n, CmpW K H n (.ref a) (.ref b) true := by
  intro n
  induction n with
  | zero =>
    have lay : (PyData.tuple (l.map PyData.str)).canLay0 = true := by
      simp only [PyData.canLay0]
      exact (strs_lay h).1
    have sd : SeqAt.shaped (.tuple (l.map PyData.str)) = true := by
      unfold SeqAt.shaped
      rw [lay, Bool.true_and]
      refine decide_eq_true ?_
      simp only [PyData.depth]
      have := (strs_lay h).2
      omega
    exact ⟨_, _, .tup (.inl (.inl ha)) strs_dp, .tup (.inl (.inl hb)) strs_dp, sd, sd, (SeqAt.eqv_refl _ lay).symm⟩
  | succ n ih => exact .inl ih
theorem CmpW.fds {a b : Addr} {fds fds' : List Fld} {bs : List Str} {n m : Nat} (ha : FldAt H a fds) (hb : FldAt H b fds') (ok : FdsOk bs fds n) (ok' : FdsOk bs fds' m) (hn : fds'.map (·.1) = fds.map (·.1)) :
    CmpTD K H (CmpW K H 0) (.ref a) (.ref b) (fdB fds fds') ∧ (V.ref a = V.ref b → fdB fds fds' = true) := by
  have hl := map_len hn
  have hkl : (fkv fds).length = fds.length := List.length_map ..
  have hkl' : (fkv fds').length = fds'.length := List.length_map ..
  refine ⟨.inr ⟨a, b, _, _, shB fds fds', rfl, rfl, ha.at_, hb.at_, by omega, fun i kv e => ?_, by rw [hkl]; rfl⟩, fun e => ?_⟩
  · unfold fkv at e
    rw [List.getElem?_map] at e
    cases ef : fds[i]? with
    | none => rw [ef] at e; cases e
    | some f =>
      rw [ef] at e
      cases e
      obtain ⟨f', ef'⟩ := at_len hl ef
      have en := map_at hn ef ef'
      have mf := List.mem_of_getElem? ef
      have mf' := List.mem_of_getElem? ef'
      refine ⟨f'.2.1, ?_, ?_⟩
      · show valV (fkv fds') (Sum.inr f.1) = _
        rw [← en]
        exact fkv_val ok'.nd mf'
      · rw [sh_at ef ef', ← shD_eqv]
        exact ⟨_, _, shD_dp (ha.sh f mf), shD_dp (hb.sh f' mf'), shD_ok ok.tx (ok.sh f mf), shD_ok ok'.tx (ok'.sh f' mf'), rfl⟩
  · cases e
    rw [fdB_true hl]
    intro i f f' e e'
    have h2 := ha.at_.symm.trans hb.at_
    have h3 : fkv fds = fkv fds' := by injection h2 with h2; injection h2
    have h4 := congrArg (fun z => z[i]?) h3
    unfold fkv at h4
    simp only [List.getElem?_map, e, e', Option.map_some] at h4
    have h5 : f.2.1 = f'.2.1 := (Prod.mk.inj (Option.some.inj h4)).2
    have s1 := ha.sh f (List.mem_of_getElem? e)
    rw [h5] at s1
    exact s1.inj (hb.sh f' (List.mem_of_getElem? e'))
end
/-- the class, as isinstance asks for it -/
structure ClsI (K : PySem.W.Frag) (C : Addr) : Prop where
  ha : PySem.W.findIn K (.ref C) "__class__" = some (some (.builtin "object.__class__"))
  hn : PySem.W.specialIn K (.builtin "object.__class__") "__get__" = some (some (.builtin "getset_descriptor.__get__"))
  htk : PySem.W.takesIn K (.builtin "object.__class__") = some true
  hm : PySem.W.mroIn K C (.type "object") = some true
  isi : PySem.W.kitOne K (.ref C) (.ref C) = some true
structure EqM (K : PySem.W.Frag) (C f : Addr) : Prop where
  at_ : PySem.W.findIn K (.ref C) "__eq__" = some (some (.ref f))
  fn : PySem.W.isFn K (.ref f) = true
  ne : PySem.W.findIn K (.ref C) "__ne__" = some (some (.builtin "object.__ne__"))
def REqB (C : Addr) (a b : Addr) (H : Hp) (β : Bool) : Prop := ∃ ks fs us root ks' fs', BuiltAt C H a ks fs us root ∧ BuiltAt C H b ks' fs' us root ∧ SchOk ks fs us root ∧ SchOk ks' fs' us root ∧ SkK ks ks' ∧ SkF fs fs' ∧ β = (kB ks ks' && fB fs fs')
section
variable {P : Program} {w : World} {K : PySem.W.Frag} {mg : Str → Option Value} {base : Heap}
theorem ok_eqB {f C : Addr} {fd : FuncData} (F : Fun K "__eq__" "Schema.__eq__" s_Schema_eq f fd) (T : Nms mg) (L : ClT K C) (gS : mg "Schema" = some (.ref C)) (ci : ClsI K C) : FnOk P w K mg base CX0 1 f fd ["self", "other"] (spEqB (REqB C)) := by
  refine F.ok sc_Schema_eq (fun vs H Q E h => ?_) (fun cdv A outer s H vs Q E hr h => ?_)
  · obtain ⟨x, y, β, rfl, _⟩ := h
    rfl
  · obtain ⟨x, y, β, rfl, ⟨ks, fs, us, root, ks', fs', Bt, Bt', ok, ok', sk, sf, rfl⟩, q⟩ := h
    have hu := hu_of hr
    have huB : (A.deeper (envOfC "Schema.__eq__" (defScope s_Schema_eq) s.heap.objs.size f cdv)).units + 128 < cLine := by have := hr.un; omega
    refine ⟨_, (pss_one (ps_ret (pe_and (pe_callB call_isi (by rfl) T.n_isinstance (by decide +kernel) (pa_cons (pv 1) (pa_cons (pe_glob (v := .ref C) (by rfl) gS rfl) pa_nil))) (pe_and (pe_cmpR (op_cmpTD huB) (pe_fld (pv 0) rfl) (pe_fld (pv 1) rfl) (nomark _)) (pe_and (pe_cmpR (op_cmpTD huB) (pe_fld (pv 0) rfl) (pe_fld (pv 1) rfl) (nomark _)) (pe_and (pe_cmpR (op_eqTD hr.units) (pe_fld (pv 0) rfl) (pe_fld (pv 1) rfl) (nomark _)) (pe_one (pe_cmpR op_eq (pe_fld (pv 0) rfl) (pe_fld (pv 1) rfl) (nomark _))))))))), ?_⟩
    obtain ⟨dx, kt, ft, ut, k1, f1, u1, hx, S, rk, rf, ru⟩ := Bt
    obtain ⟨dy, lt, gt, vt, k2, f2, u2, hy, S', rk', rf', ru'⟩ := Bt'
    have lk : k2.length = k1.length := by rw [rk'.1, sk.1, rk.1]
    have lf : f2.length = f1.length := by rw [rf'.1, sf.1, rf.1]
    have lu : u2.length = u1.length := by rw [ru'.1, ru.1]
    have ebs : bsOf ks' fs' us = bsOf ks fs us := by
      unfold bsOf
      rw [map_rel sk.1 fun i a b ea eb => (sk.2 i a b ea eb).1, map_rel sf.1 fun i a b ea eb => (sf.2 i a b ea eb).1]
    have dk : ∀ (i : Nat) a b, k1[i]? = some a → k2[i]? = some b → b.nm = a.nm ∧ b.fcs = a.fcs ∧ kB1 ks ks' i = fdB a.fds b.fds ∧ b.fds.map (·.1) = a.fds.map (·.1) ∧ FdsOk (bsOf ks fs us) a.fds 5 ∧ FdsOk (bsOf ks fs us) b.fds 5 ∧ ∀ z ∈ a.fcs, PyData.strOk z = true := by
      intro i a b ea eb
      obtain ⟨k, hk⟩ := at_len rk.1.symm ea
      obtain ⟨k', hk'⟩ := at_len rk'.1.symm eb
      obtain ⟨a1, a2, a3, a4⟩ := rk.2 i k a hk ea
      obtain ⟨b1, b2, b3, b4⟩ := rk'.2 i k' b hk' eb
      obtain ⟨c1, c2, c3⟩ := sk.2 i k k' hk hk'
      have mk := List.mem_of_getElem? hk
      have mk' := List.mem_of_getElem? hk'
      refine ⟨b1.trans (c1.trans a1.symm), sorted_one b3 a3 (b2.trans (c2.trans a2.symm)), by rw [kB_at hk hk', a4, b4], by rw [a4, b4]; exact c3, by rw [a4]; exact ok.kd k mk, by rw [b4, ← ebs]; exact ok'.kd k' mk', fun z m => ?_⟩
      obtain ⟨f0, mf0, e0⟩ := List.mem_map.mp ((ok.kf k mk).2.1 z (a2.mem_iff.mp m))
      rw [← e0]
      exact (ok.nf f0 mf0).tx
    have df : ∀ (i : Nat) a b, f1[i]? = some a → f2[i]? = some b → b.nm = a.nm ∧ fB1 fs fs' i = fdB a.fds b.fds ∧ b.fds.map (·.1) = a.fds.map (·.1) ∧ FdsOk (bsOf ks fs us) a.fds 4 ∧ FdsOk (bsOf ks fs us) b.fds 4 := by
      intro i a b ea eb
      obtain ⟨k, hk⟩ := at_len rf.1.symm ea
      obtain ⟨k', hk'⟩ := at_len rf'.1.symm eb
      obtain ⟨a1, a4⟩ := rf.2 i k a hk ea
      obtain ⟨b1, b4⟩ := rf'.2 i k' b hk' eb
      obtain ⟨c1, c3⟩ := sf.2 i k k' hk hk'
      exact ⟨b1.trans (c1.trans a1.symm), by rw [fB_at hk hk', a4, b4], by rw [a4, b4]; exact c3, by rw [a4]; exact ok.fd k (List.mem_of_getElem? hk), by rw [b4, ← ebs]; exact ok'.fd k' (List.mem_of_getElem? hk')⟩
    have du : ∀ (i : Nat) a b, u1[i]? = some a → u2[i]? = some b → b.nm = a.nm ∧ b.ms = a.ms := by
      intro i a b ea eb
      obtain ⟨k, hk⟩ := at_len ru.1.symm ea
      obtain ⟨k', hk'⟩ := at_len ru'.1.symm eb
      obtain ⟨a1, a2, a3⟩ := ru.2 i k a hk ea
      obtain ⟨b1, b2, b3⟩ := ru'.2 i k' b hk' eb
      have : k = k' := by rw [hk] at hk'; cases hk'; rfl
      subst this
      exact ⟨b1.trans a1.symm, sorted_one b3 a3 (b2.trans a2.symm)⟩
    have nk2 : (k2.map (·.nm)).Nodup := by rw [rk'.names']; exact ok'.ndk
    have nf2 : (f2.map (·.nm)).Nodup := by rw [rf'.names']; exact ok'.ndf
    have nu2 : (u2.map (·.nm)).Nodup := by rw [ru'.names']; exact ok'.ndu
    have hk1 : (kkv k1).length = ks.length := (List.length_map ..).trans rk.1
    have hf1 : (fkvs f1).length = fs.length := (List.length_map ..).trans rf.1
    have e1 : CmpTD K H (CmpW K H 2) (.ref kt) (.ref lt) (kB ks ks') := by
      refine .inr ⟨kt, lt, _, _, kB1 ks ks', rfl, rfl, S.kd, S'.kd, ?_, fun i kv e => ?_, by rw [hk1]; rfl⟩
      · rw [show (kkv k1).length = k1.length from List.length_map .., show (kkv k2).length = k2.length from List.length_map .., lk]
      · unfold kkv at e
        rw [List.getElem?_map] at e
        cases ea : k1[i]? with
        | none => rw [ea] at e; cases e
        | some a =>
          rw [ea] at e
          cases e
          obtain ⟨b, eb⟩ := at_len lk ea
          obtain ⟨c1, c2, c3, c4, c5, c6, c7⟩ := dk i a b ea eb
          have ma := List.mem_of_getElem? ea
          have mb := List.mem_of_getElem? eb
          have ha := S.ka a ma
          have hb := S'.ka b mb
          obtain ⟨t1, t2⟩ := CmpW.fds (K := K) ha.d hb.d c5 c6 c4
          refine ⟨.ref b.t, ?_, .inr ⟨.inl ⟨a.t, b.t, _, _, fun j => if j = 1 then fdB a.fds b.fds else true, rfl, rfl, ha.t, hb.t, rfl, fun j u v eu ev => ?_, ?_⟩, fun z => ?_⟩⟩
          · show valV (kkv k2) (Sum.inr a.nm) = _
            rw [← c1]
            exact kkv_val nk2 mb
          · match j, eu, ev with
            | 0, eu, ev =>
              cases eu
              cases ev
              exact CmpW.strs c7 ha.f (by rw [← c2]; exact hb.f) 1
            | 1, eu, ev =>
              cases eu
              cases ev
              exact .inr ⟨t1, t2⟩
            | j + 2, eu, _ => cases eu
          · rw [c3]
            show _ = ((if 0 = 1 then fdB a.fds b.fds else true) && ((if 1 = 1 then fdB a.fds b.fds else true) && true))
            simp
          · rw [c3]
            have z' : a.t = b.t := V.ref.inj z
            have h0 : H a.t = some (.tup [.ref b.fa, .ref b.da]) := by rw [z']; exact hb.t
            have h2 : V.ref a.da = V.ref b.da := by
              rw [ha.t] at h0
              injection h0 with h0
              injection h0 with h0
              injection h0 with _ h0
              injection h0
            exact t2 h2
    have e2 : CmpTD K H (CmpW K H 1) (.ref ft) (.ref gt) (fB fs fs') := by
      refine .inr ⟨ft, gt, _, _, fB1 fs fs', rfl, rfl, S.fd, S'.fd, ?_, fun i kv e => ?_, by rw [hf1]; rfl⟩
      · rw [show (fkvs f1).length = f1.length from List.length_map .., show (fkvs f2).length = f2.length from List.length_map .., lf]
      · unfold fkvs at e
        rw [List.getElem?_map] at e
        cases ea : f1[i]? with
        | none => rw [ea] at e; cases e
        | some a =>
          rw [ea] at e
          cases e
          obtain ⟨b, eb⟩ := at_len lf ea
          obtain ⟨c1, c3, c4, c5, c6⟩ := df i a b ea eb
          have mb := List.mem_of_getElem? eb
          obtain ⟨t1, t2⟩ := CmpW.fds (K := K) (S.fa a (List.mem_of_getElem? ea)) (S'.fa b mb) c5 c6 c4
          refine ⟨.ref b.da, ?_, ?_⟩
          · show valV (fkvs f2) (Sum.inr a.nm) = _
            rw [← c1]
            exact fkvs_val nf2 mb
          · rw [c3]
            exact .inr ⟨t1, t2⟩
    have e3 : EqTD K H (EqW K H 6) (.ref ut) (.ref vt) := by
      refine .inr ⟨ut, vt, _, _, rfl, rfl, S.ud, S'.ud, ?_, fun kv m => ?_⟩
      · rw [show (ukv u1).length = u1.length from List.length_map .., show (ukv u2).length = u2.length from List.length_map .., lu]
      · obtain ⟨a, ma, rfl⟩ := List.mem_map.mp m
        obtain ⟨i, ei⟩ := List.getElem?_of_mem ma
        obtain ⟨b, eb⟩ := at_len lu ei
        obtain ⟨c1, c2⟩ := du i a b ei eb
        have mb := List.mem_of_getElem? eb
        refine ⟨.ref b.t, ?_, .inr (EqW.strs (n := 4) (S.ua a ma) (c2 ▸ S'.ua b mb))⟩
        show valV (ukv u2) (Sum.inr a.nm) = _
        rw [← c1]
        exact ukv_val nu2 mb
    refine ⟨.ref y, rfl, _, _, _, _, true, rfl, .own C, .base (.ins hy L.cl ci.ha ci.hn ci.htk ci.hm), ci.isi, true, rfl, iteT ?_⟩
    refine ⟨.ref x, rfl, x, C, dx, _, _, rfl, hx, L.cl, L.nk, lkk .., .ref y, rfl, y, C, dy, _, _, rfl, hy, L.cl, L.nk, lkk .., 2, kB ks ks', by decide, e1, kB ks ks', rfl, ?_⟩
    cases hkb : kB ks ks' with
    | false =>
      rw [hkb] at q
      exact iteF (q H (fun _ _ e => e))
    | true =>
      rw [hkb] at q
      refine iteT ⟨.ref x, rfl, x, C, dx, _, _, rfl, hx, L.cl, L.nf, lkf .., .ref y, rfl, y, C, dy, _, _, rfl, hy, L.cl, L.nf, lkf .., 1, fB fs fs', by decide, e2, fB fs fs', rfl, ?_⟩
      cases hfb : fB fs fs' with
      | false =>
        rw [hfb] at q
        exact iteF (q H (fun _ _ e => e))
      | true =>
        rw [hfb] at q
        refine iteT ⟨.ref x, rfl, x, C, dx, _, _, rfl, hx, L.cl, L.nu, lku .., .ref y, rfl, y, C, dy, _, _, rfl, hy, L.cl, L.nu, lku .., 6, by decide, e3, true, rfl, iteT ?_⟩
        refine ⟨.ref x, rfl, x, C, dx, _, _, rfl, hx, L.cl, L.nr, lkr .., .ref y, rfl, y, C, dy, _, _, rfl, hy, L.cl, L.nr, lkr .., rfl, ?_⟩
        rw [decide_eq_true rfl]
        exact q H (fun _ _ e => e)
end
end NW
namespace NW
open PySem PySem.Spec PyProof.Rows L2
open TL (tl)
/-! ### == of two schemas -/
theorem strs_eqvL : ∀ {l m : List Str}, PyData.eqv (.tuple (l.map PyData.str)) (.tuple (m.map PyData.str)) = decide (l = m)
  | [], [] => rfl
  | [], _ :: _ => rfl
  | _ :: _, [] => rfl
  | a :: l, b :: m => by
    have ih := strs_eqvL (l := l) (m := m)
    show ((a == b) && PyData.eqv (.tuple (l.map PyData.str)) (.tuple (m.map PyData.str))) = _
    rw [ih, Bool.eq_iff_iff]
    simp
theorem strs_shaped {l : List Str} (h : ∀ z ∈ l, PyData.strOk z = true) : SeqAt.shaped (.tuple (l.map PyData.str)) = true := by
  have lay : (PyData.tuple (l.map PyData.str)).canLay0 = true := by
    simp only [PyData.canLay0]
    exact (strs_lay h).1
  unfold SeqAt.shaped
  rw [lay, Bool.true_and]
  refine decide_eq_true ?_
  simp only [PyData.depth]
  have := (strs_lay h).2
  omega
def eAt {α : Type} (A : List α) (p : α → Bool) (i : Nat) : Bool := match A[i]? with
  | some a => p a
  | none => false
theorem eAt_some {α : Type} {A : List α} {p : α → Bool} {i : Nat} {a : α} (e : A[i]? = some a) : eAt A p i = p a := by
  unfold eAt
  rw [e]
theorem valV_no {α : Type} {l : List α} {f : α → Str} {g : α → V} {z : Str} (h : z ∉ l.map f) : valV (l.map fun a => ((Sum.inr (f a) : Key), g a)) (Sum.inr z) = none := by
  unfold valV
  rw [List.find?_eq_none.mpr fun kv m => ?_]
  · rfl
  · obtain ⟨a, ma, rfl⟩ := List.mem_map.mp m
    intro e
    have := of_decide_eq_true e
    exact h (List.mem_map.mpr ⟨a, ma, Sum.inr.inj this⟩)
open Classical in
section
variable {K : PySem.W.Frag} {H : Hp}
theorem GmpW.up {n m : Nat} {x y : V} {β : Bool} (h : GmpW K H n x y β) (l : n ≤ m) : GmpW K H m x y β := by
  induction l with
  | refl => exact h
  | step _ ih => exact .inl ih
theorem GmpW.strs {a b : Addr} {l m : List Str} (h : ∀ z ∈ l, PyData.strOk z = true) (h' : ∀ z ∈ m, PyData.strOk z = true) (ha : H a = some (.tup (l.map V.str))) (hb : H b = some (.tup (m.map V.str))) : GmpW K H 0 (.ref a) (.ref b) (decide (l = m)) :=
  ⟨_, _, .tup (.inl (.inl ha)) strs_dp, .tup (.inl (.inl hb)) strs_dp, strs_shaped h, strs_shaped h', strs_eqvL.symm⟩
open Classical in
theorem cmp_dict {F : V → V → Bool → Prop} {α β : Type} {A : List α} {B : List β} {f : α → Str} {g : β → Str} {va : α → V} {vb : β → V} {a b : Addr} (ha : H a = some (.dK (A.map fun x => ((Sum.inr (f x) : Key), va x)))) (hb : H b = some (.dK (B.map fun x => ((Sum.inr (g x) : Key), vb x))))
    (na : (A.map f).Nodup) (nb : (B.map g).Nodup) {R : α → β → Prop} (hF : ∀ x ∈ A, ∀ y ∈ B, g y = f x → F (va x) (vb y) (decide (R x y))) {E : Prop} [Decidable E] (hE : E ↔ ((A.map f).Perm (B.map g) ∧ ∀ x ∈ A, ∀ y ∈ B, f x = g y → R x y)) :
    CmpG K H F (.ref a) (.ref b) (decide E) := by
  rw [show decide E = decide ((A.map f).Perm (B.map g) ∧ ∀ x ∈ A, ∀ y ∈ B, f x = g y → R x y) from decide_eq_decide.mpr hE]
  have body : ∀ x y, y ∈ B → g y = f x → decide (f x ∈ B.map g ∧ ∀ y ∈ B, g y = f x → R x y) = decide (R x y) := fun x y my ey => decide_eq_decide.mpr ⟨fun h => h.2 y my ey, fun h => ⟨List.mem_map.mpr ⟨y, my, ey⟩, fun y' my' ey' => by
    rw [← map_uniq nb my my' (ey.trans ey'.symm)]
    exact h⟩⟩
  refine .inr ⟨a, b, _, _, eAt A (fun x => decide (f x ∈ B.map g ∧ ∀ y ∈ B, g y = f x → R x y)), rfl, rfl, ha, hb, fun i kv e => ?_, ?_⟩
  · rw [List.getElem?_map] at e
    cases ea : A[i]? with
    | none => rw [ea] at e; cases e
    | some x =>
      rw [ea] at e
      cases e
      rw [eAt_some ea]
      have mx := List.mem_of_getElem? ea
      by_cases hm : f x ∈ B.map g
      · obtain ⟨y, my, ey⟩ := List.mem_map.mp hm
        refine .inr ⟨vb y, ?_, ?_⟩
        · show valV (B.map fun x => ((Sum.inr (g x) : Key), vb x)) (Sum.inr (f x)) = _
          rw [← ey]
          exact NW.valV_map nb my
        · rw [body x y my ey]
          exact hF x mx y my ey
      · exact .inl ⟨valV_no hm, decide_eq_false fun h => hm h.1⟩
  · rw [List.length_map, List.length_map]
    refine (dict_dec na nb fun i x ex => ?_).symm
    rw [eAt_some ex]
    by_cases hm : f x ∈ B.map g
    · obtain ⟨y, my, ey⟩ := List.mem_map.mp hm
      exact .inr ⟨y, my, ey, body x y my ey⟩
    · exact .inl ⟨hm, decide_eq_false fun h => hm h.1⟩
open Classical in
theorem GmpW.fds {a b : Addr} {fds fds' : List Fld} {bs bs' : List Str} {n m : Nat} (ha : FldAt H a fds) (hb : FldAt H b fds') (ok : FdsOk bs fds n) (ok' : FdsOk bs' fds' m) : CmpG K H (GmpW K H 0) (.ref a) (.ref b) (decide (FdsE fds fds')) ∧ (V.ref a = V.ref b → decide (FdsE fds fds') = true) := by
  refine ⟨cmp_dict (A := fds) (B := fds') (f := (·.1)) (g := (·.1)) (va := fun f => f.2.1) (vb := fun f => f.2.1) (R := fun f g => f.2.2 = g.2.2) ha.at_ hb.at_ ok.nd ok'.nd (fun x mx y my ey => ?_) Iff.rfl, fun e => ?_⟩
  · refine ⟨_, _, shD_dp (ha.sh x mx), shD_dp (hb.sh y my), shD_ok ok.tx (ok.sh x mx), shD_ok ok'.tx (ok'.sh y my), ?_⟩
    rw [shD_eqv]
    exact decide_eq_decide.mpr Iff.rfl
  · cases e
    refine decide_eq_true ?_
    have h2 := ha.at_.symm.trans hb.at_
    have h3 : fkv fds = fkv fds' := by injection h2 with h2; injection h2
    have hn : fds.map (·.1) = fds'.map (·.1) := by
      have := congrArg (List.map Prod.fst) h3
      unfold fkv at this
      rw [List.map_map, List.map_map] at this
      have e1 : ∀ l : List Fld, l.map (Prod.fst ∘ fun f => ((Sum.inr f.1 : Key), f.2.1)) = (l.map (·.1)).map Sum.inr := fun l => by rw [List.map_map]; rfl
      rw [e1, e1] at this
      exact (List.map_inj_right (fun _ _ h => Sum.inr.inj h)).mp this
    refine ⟨by rw [hn], fun f mf g mg eg => ?_⟩
    have v1 := fkv_val ok.nd mf
    have v2 := fkv_val ok'.nd mg
    rw [h3, eg, v2] at v1
    have s1 := ha.sh f mf
    rw [← Option.some.inj v1] at s1
    exact s1.inj (hb.sh g mg)
end
open Classical in
def REqG (C : Addr) (a b : Addr) (H : Hp) (β : Bool) : Prop := ∃ ks fs us root ks' fs' us' root', BuiltAt C H a ks fs us root ∧ BuiltAt C H b ks' fs' us' root' ∧ SchOk ks fs us root ∧ SchOk ks' fs' us' root' ∧ β = decide (SchE ks fs us root ks' fs' us' root')
section
variable {P : Program} {w : World} {K : PySem.W.Frag} {mg : Str → Option Value} {base : Heap}
open Classical in
theorem tab_eq {H : Hp} {kt lt ft gt ut vt : Addr} {k1 k2 : List KRow} {f1 f2 : List FRow} {u1 u2 : List URow} {r r' : Str} (S : SchAt H kt ft ut k1 f1 u1) (S' : SchAt H lt gt vt k2 f2 u2) (ok : SchOk k1 f1 u1 r) (ok' : SchOk k2 f2 u2 r')
    (so : ∀ k ∈ k1, sortedS k.fcs = true) (so' : ∀ k ∈ k2, sortedS k.fcs = true) (su : ∀ k ∈ u1, sortedS k.ms = true) (su' : ∀ k ∈ u2, sortedS k.ms = true) :
    CmpG K H (GmpW K H 3) (.ref kt) (.ref lt) (decide (KsE k1 k2)) ∧ CmpG K H (GmpW K H 3) (.ref ft) (.ref gt) (decide (FsE f1 f2)) ∧ CmpG K H (GmpW K H 3) (.ref ut) (.ref vt) (decide (UsE u1 u2)) := by
  have txK : ∀ {ks : List KRow} {fs us root}, SchOk ks fs us root → ∀ k ∈ ks, ∀ z ∈ k.fcs, PyData.strOk z = true := fun ok k mk z m => by
    obtain ⟨f0, mf0, e0⟩ := List.mem_map.mp ((ok.kf k mk).2.1 z m)
    rw [← e0]
    exact (ok.nf f0 mf0).tx
  have txU : ∀ {ks fs} {us : List URow} {root}, SchOk ks fs us root → ∀ k ∈ us, ∀ z ∈ k.ms, PyData.strOk z = true := fun ok k mk z m => by
    obtain ⟨f0, mf0, e0⟩ := List.mem_map.mp ((ok.ud k mk).2.2.2 z m)
    rw [← e0]
    exact (ok.nk f0 mf0).tx
  refine ⟨cmp_dict (A := k1) (B := k2) (f := (·.nm)) (g := (·.nm)) (va := fun k => .ref k.t) (vb := fun k => .ref k.t) (R := fun k l => k.fcs.Perm l.fcs ∧ FdsE k.fds l.fds) S.kd S'.kd ok.ndk ok'.ndk (fun a ma b mb eb => ?_) Iff.rfl, cmp_dict (A := f1) (B := f2) (f := (·.nm)) (g := (·.nm)) (va := fun k => .ref k.da) (vb := fun k => .ref k.da) (R := fun k l => FdsE k.fds l.fds) S.fd S'.fd ok.ndf ok'.ndf (fun a ma b mb eb => ?_) Iff.rfl, cmp_dict (A := u1) (B := u2) (f := (·.nm)) (g := (·.nm)) (va := fun k => .ref k.t) (vb := fun k => .ref k.t) (R := fun k l => k.ms.Perm l.ms) S.ud S'.ud ok.ndu ok'.ndu (fun a ma b mb eb => ?_) Iff.rfl⟩
  · have hA := S.ka a ma
    have hB := S'.ka b mb
    have c1 := GmpW.strs (K := K) (txK ok a ma) (txK ok' b mb) hA.f hB.f
    have c2 := GmpW.fds (K := K) hA.d hB.d (ok.kd a ma) (ok'.kd b mb)
    have eqf : decide (a.fcs = b.fcs) = decide (a.fcs.Perm b.fcs) := decide_eq_decide.mpr ⟨fun h => by rw [h], fun h => sorted_one (so a ma) (so' b mb) h⟩
    refine cast (congrArg (GmpW K H 3 _ _) (a₁ := (decide (a.fcs.Perm b.fcs) && decide (FdsE a.fds b.fds))) ?_) ?_
    · rw [Bool.eq_iff_iff]
      simp only [Bool.and_eq_true, decide_eq_true_eq]
    refine .inr ⟨.inl ⟨a.t, b.t, _, _, fun j => if j = 1 then decide (FdsE a.fds b.fds) else decide (a.fcs.Perm b.fcs), rfl, rfl, hA.t, hB.t, rfl, fun j u v eu ev => ?_, ?_⟩, fun z => ?_⟩
    · match j, eu, ev with
      | 0, eu, ev =>
        cases eu
        cases ev
        have := c1.up (show 0 ≤ 2 by decide)
        rw [eqf] at this
        exact this
      | 1, eu, ev =>
        cases eu
        cases ev
        exact GmpW.up (n := 1) (.inr c2) (by decide)
      | j + 2, eu, _ => cases eu
    · show _ = ((if 0 = 1 then decide (FdsE a.fds b.fds) else decide (a.fcs.Perm b.fcs)) && ((if 1 = 1 then decide (FdsE a.fds b.fds) else decide (a.fcs.Perm b.fcs)) && true))
      simp
    · have z' : a.t = b.t := V.ref.inj z
      have h0 : H a.t = some (.tup [.ref b.fa, .ref b.da]) := by rw [z']; exact hB.t
      rw [hA.t] at h0
      injection h0 with h0
      injection h0 with h0
      injection h0 with h1 h0
      injection h0 with h2 _
      have w1 := V.ref.inj h1
      have g1 : a.fcs = b.fcs := by
        have := hA.f
        rw [w1, hB.f] at this
        injection this with this
        injection this with this
        exact ((List.map_inj_right (fun _ _ h => V.str.inj h)).mp this).symm
      rw [c2.2 h2, g1, decide_eq_true (List.Perm.refl _)]
      rfl
  · exact GmpW.up (n := 1) (.inr (GmpW.fds (K := K) (S.fa a ma) (S'.fa b mb) (ok.fd a ma) (ok'.fd b mb))) (by decide)
  · have c1 := GmpW.strs (K := K) (txU ok a ma) (txU ok' b mb) (S.ua a ma) (S'.ua b mb)
    have eqf : decide (a.ms = b.ms) = decide (a.ms.Perm b.ms) := decide_eq_decide.mpr ⟨fun h => by rw [h], fun h => sorted_one (su a ma) (su' b mb) h⟩
    refine cast (congrArg (GmpW K H 3 _ _) (a₁ := decide (a.ms = b.ms)) ?_) (c1.up (by decide))
    rw [Bool.eq_iff_iff]
    simp only [decide_eq_true_eq]
    exact ⟨fun h => by rw [h], fun h => sorted_one (su a ma) (su' b mb) h⟩
open Classical in
theorem ok_eqG {f C : Addr} {fd : FuncData} (F : Fun K "__eq__" "Schema.__eq__" s_Schema_eq f fd) (T : Nms mg) (L : ClT K C) (gS : mg "Schema" = some (.ref C)) (ci : ClsI K C) : FnOk P w K mg base CX0 1 f fd ["self", "other"] (spEqB (REqG C)) := by
  refine F.ok sc_Schema_eq (fun vs H Q E h => ?_) (fun cdv A outer s H vs Q E hr h => ?_)
  · obtain ⟨x, y, β, rfl, _⟩ := h
    rfl
  · obtain ⟨x, y, β, rfl, ⟨ks, fs, us, root, ks', fs', us', root', Bt, Bt', ok, ok', rfl⟩, q⟩ := h
    have hu := hu_of hr
    have huB : (A.deeper (envOfC "Schema.__eq__" (defScope s_Schema_eq) s.heap.objs.size f cdv)).units + 128 < cLine := by have := hr.un; omega
    refine ⟨_, (pss_one (ps_ret (pe_and (pe_callB call_isi (by rfl) T.n_isinstance (by decide +kernel) (pa_cons (pv 1) (pa_cons (pe_glob (v := .ref C) (by rfl) gS rfl) pa_nil))) (pe_and (pe_cmpR (op_cmpG huB) (pe_fld (pv 0) rfl) (pe_fld (pv 1) rfl) (nomark _)) (pe_and (pe_cmpR (op_cmpG huB) (pe_fld (pv 0) rfl) (pe_fld (pv 1) rfl) (nomark _)) (pe_and (pe_cmpR (op_cmpG huB) (pe_fld (pv 0) rfl) (pe_fld (pv 1) rfl) (nomark _)) (pe_one (pe_cmpR op_eq (pe_fld (pv 0) rfl) (pe_fld (pv 1) rfl) (nomark _))))))))), ?_⟩
    obtain ⟨dx, kt, ft, ut, k1, f1, u1, hx, S, rk, rf, ru⟩ := Bt
    obtain ⟨dy, lt, gt, vt, k2, f2, u2, hy, S', rk', rf', ru'⟩ := Bt'
    have o1 := rel_ok ok rk rf ru
    have o2 := rel_ok ok' rk' rf' ru'
    have kso : ∀ {ks k1 : List KRow}, RelK ks k1 → ∀ k ∈ k1, sortedS k.fcs = true := fun h k m => by
      obtain ⟨i, ei⟩ := List.getElem?_of_mem m
      obtain ⟨k2, e2⟩ := at_len h.1.symm ei
      exact (h.2 i k2 k e2 ei).2.2.1
    have uso : ∀ {ks k1 : List URow}, RelU ks k1 → ∀ k ∈ k1, sortedS k.ms = true := fun h k m => by
      obtain ⟨i, ei⟩ := List.getElem?_of_mem m
      obtain ⟨k2, e2⟩ := at_len h.1.symm ei
      exact (h.2 i k2 k e2 ei).2.2
    obtain ⟨t1, t2, t3⟩ := tab_eq (K := K) S S' o1 o2 (kso rk) (kso rk') (uso ru) (uso ru')
    have ek := rk.e ok.ndk fun k m => (ok.kd k m).nd
    have ek' := rk'.e ok'.ndk fun k m => (ok'.kd k m).nd
    have ef := rf.e ok.ndf fun k m => (ok.fd k m).nd
    have ef' := rf'.e ok'.ndf fun k m => (ok'.fd k m).nd
    have eu := ru.e ok.ndu
    have eu' := ru'.e ok'.ndu
    have d1 : decide (KsE k1 k2) = decide (KsE ks ks') := decide_eq_decide.mpr ⟨fun h => ek.trans (h.trans ek'.symm), fun h => ek.symm.trans (h.trans ek')⟩
    have d2 : decide (FsE f1 f2) = decide (FsE fs fs') := decide_eq_decide.mpr ⟨fun h => ef.trans (h.trans ef'.symm), fun h => ef.symm.trans (h.trans ef')⟩
    have d3 : decide (UsE u1 u2) = decide (UsE us us') := decide_eq_decide.mpr ⟨fun h => eu.trans (h.trans eu'.symm), fun h => eu.symm.trans (h.trans eu')⟩
    have dd : decide (SchE ks fs us root ks' fs' us' root') = (decide (KsE ks ks') && (decide (FsE fs fs') && (decide (UsE us us') && decide (V.str root = V.str root')))) := by
      rw [← Bool.decide_and, ← Bool.decide_and, ← Bool.decide_and]
      refine decide_eq_decide.mpr ⟨fun h => ⟨h.1, h.2.1, h.2.2.1, by rw [h.2.2.2]⟩, fun h => ⟨h.1, h.2.1, h.2.2.1, V.str.inj h.2.2.2⟩⟩
    rw [d1] at t1
    rw [d2] at t2
    rw [d3] at t3
    rw [dd] at q
    refine ⟨.ref y, rfl, _, _, _, _, true, rfl, .own C, .base (.ins hy L.cl ci.ha ci.hn ci.htk ci.hm), ci.isi, true, rfl, iteT ?_⟩
    refine ⟨.ref x, rfl, x, C, dx, _, _, rfl, hx, L.cl, L.nk, lkk .., .ref y, rfl, y, C, dy, _, _, rfl, hy, L.cl, L.nk, lkk .., 3, _, by decide, t1, _, rfl, ?_⟩
    cases hkb : decide (KsE ks ks') with
    | false =>
      rw [hkb, Bool.false_and] at q
      exact iteF (q H (fun _ _ e => e))
    | true =>
      rw [hkb, Bool.true_and] at q
      refine iteT ⟨.ref x, rfl, x, C, dx, _, _, rfl, hx, L.cl, L.nf, lkf .., .ref y, rfl, y, C, dy, _, _, rfl, hy, L.cl, L.nf, lkf .., 3, _, by decide, t2, _, rfl, ?_⟩
      cases hfb : decide (FsE fs fs') with
      | false =>
        rw [hfb, Bool.false_and] at q
        exact iteF (q H (fun _ _ e => e))
      | true =>
        rw [hfb, Bool.true_and] at q
        refine iteT ⟨.ref x, rfl, x, C, dx, _, _, rfl, hx, L.cl, L.nu, lku .., .ref y, rfl, y, C, dy, _, _, rfl, hy, L.cl, L.nu, lku .., 3, _, by decide, t3, _, rfl, ?_⟩
        cases hub : decide (UsE us us') with
        | false =>
          rw [hub, Bool.false_and] at q
          exact iteF (q H (fun _ _ e => e))
        | true =>
          rw [hub, Bool.true_and] at q
          refine iteT ⟨.ref x, rfl, x, C, dx, _, _, rfl, hx, L.cl, L.nr, lkr .., .ref y, rfl, y, C, dy, _, _, rfl, hy, L.cl, L.nr, lkr .., rfl, ?_⟩
          have := q H (fun _ _ e => e)
          rw [show decide (V.str root = V.str root') = @decide (V.str root = V.str root') _ from decide_eq_decide.mpr Iff.rfl] at this
          exact this
end
end NW
namespace NW
open PySem PySem.Spec PyProof.Rows L2
/-! ### t[::-1] -/
section
variable {prog : Program} {w : World} {A : Around} {E : Value → Shared → Prop} {s : Shared}
theorem fmCongr {α β : Type} {f g : α → Option β} : ∀ l : List α, (∀ x ∈ l, f x = g x) → l.filterMap f = l.filterMap g
  | [], _ => rfl
  | x :: r, h => by
    rw [List.filterMap_cons, List.filterMap_cons, h x List.mem_cons_self, fmCongr r fun y hy => h y (List.mem_cons_of_mem _ hy)]
theorem adjust_rev (n : Nat) : Builtin.Slice.sliceAdjust none none (-1) (n : Int) = ((n : Int) - 1, -1) := by
  unfold Builtin.Slice.sliceAdjust
  simp
theorem places_rev (n : Nat) : Builtin.Slice.slicePlaces ((n : Int) - 1) (-1) (-1) = n := by
  unfold Builtin.Slice.slicePlaces
  have h1 : ¬ ((-1 : Int) > 0) := by decide
  simp only [h1, if_false, show (- -1 : Int) = 1 from rfl, Int.ediv_one]
  split <;> omega
theorem sliceApplied_rev {sl : Addr} {n : Nat} {u : Tok} {Q : Int × Int × Nat → Shared → Prop} (hs : s.heap.IsSliceOf sl .none .none (.int (-1) u)) (h : Q ((n : Int) - 1, -1, n) s) :
    wpAny (model prog w) A (Builtin.Slice.sliceApplied (.ref sl) (pure (n : Int))) Q E s := by
  obtain ⟨os, hos, hcs, hds⟩ := id hs
  unfold Builtin.Slice.sliceApplied Builtin.Slice.sliceFields
  refine wpAny_bind (wpAny_bind (wpAny_field hos hds (x := .none) rfl (wpAny_bind (wpAny_field hos hds (x := .none) rfl (wpAny_bind (wpAny_field hos hds (x := .int (-1) u) rfl (wpAny_pure ?_)))))))
  refine wpAny_bind (slicePart_int ?_)
  show wpAny _ _ (if ((-1 : Int) == 0) = true then _ else _) _ _ s
  rw [if_neg (by decide)]
  refine wpAny_bind (slicePart_none (wpAny_bind (slicePart_none (wpAny_bind (wpAny_pure ?_)))))
  show wpAny _ _ (match Builtin.Slice.sliceAdjust none none (-1) (n : Int) with | (lo, hi) => pure (lo, (-1 : Int), Builtin.Slice.slicePlaces lo hi (-1))) _ _ s
  rw [adjust_rev n]
  show wpAny _ _ (pure ((n : Int) - 1, (-1 : Int), Builtin.Slice.slicePlaces ((n : Int) - 1) (-1) (-1))) _ _ s
  rw [places_rev n]
  exact wpAny_pure h
theorem pick_rev (xs : Array Value) : ((List.range xs.size).filterMap fun (k : Nat) => xs[((xs.size : Int) - 1 + (k : Int) * -1).toNat]?).toArray = xs.toList.reverse.toArray := by
  have e : (List.range xs.size).filterMap (fun (k : Nat) => xs[((xs.size : Int) - 1 + (k : Int) * -1).toNat]?) = ((List.range xs.size).map (fun k => xs.size - 1 - k)).filterMap (xs[·]?) := by
    rw [List.filterMap_map]
    refine fmCongr _ fun k hk => ?_
    have := List.mem_range.mp hk
    have e2 : ((xs.size : Int) - 1 + (k : Int) * -1).toNat = xs.size - 1 - k := by omega
    simp only [Function.comp, e2]
  rw [e, PySem.W.krv_range, List.filterMap_reverse, PySem.W.krv_all]
theorem getItem_tuple_rev {t sl : Addr} {items : Array Value} {u : Tok} {Q : Value → Shared → Prop} (ht : IsTup s.heap t items) (hs : s.heap.IsSliceOf sl .none .none (.int (-1) u))
    (h : Q (.ref s.heap.objs.size) { s with heap := s.heap.push { cls := .type "tuple", data := .seq items.toList.reverse.toArray } })
    (hsz : items.size ≤ sizeLine) : wpAny (model prog w) A (getItem (.ref t) (.ref sl)) Q E s := by
  have hdrop : sizeOk (.seq items.toList.reverse.toArray) := by
    show items.toList.reverse.toArray.size ≤ sizeLine
    rw [List.size_toArray, List.length_reverse, Array.length_toList]
    exact hsz
  obtain ⟨os, hos, hcs, hds⟩ := id hs
  have hTs : s.TypeIs (.ref sl) "slice" := ⟨os, hos, hcs⟩
  unfold getItem
  try with_reducible refine wpAny_holding ?_
  first | refine wpAny_bind (wpAny_pure ?_) | skip
  refine wpAny_bind (wpAny_sequenceKey ht.typeIs (by decide) ?_)
  refine wpAny_bind (wpAny_callSpecial?_slot (name := Str.ofString "__getitem__") ht.typeIs PyProof.Rows.slot_tuple_getitem
    (wpAny_call_entry PyProof.Rows.slot_tuple_getitem ht.typeIs entry_tuple_getitem ?_ (args_tuple_getitem _ _)))
  show wpAny _ _ (Builtin.Tuple.tupleItemsOf (.ref t) >>= _) _ _ s
  refine wpAny_bind (tupleItemsOf_ ht ?_)
  refine wpAny_bind (wpAny_typeOf hTs ?_)
  rw [if_pos (by decide)]
  refine wpAny_bind (sliceApplied_rev hs ?_)
  have hno : ¬ ((((items.size : Int) - 1) == 0 && (-1 : Int) == 1 && items.size == items.size) = true) := by
    rw [show ((-1 : Int) == 1) = false by decide, Bool.and_false, Bool.false_and]
    exact Bool.false_ne_true
  show wpAny _ _ (if (((items.size : Int) - 1) == 0 && (-1 : Int) == 1 && items.size == items.size) = true then _ else _) _ _ s
  rw [if_neg hno, pick_rev items]
  first
    | exact wpAny_bind (m := Builtin.Tuple.tupleExact _) (wpAny_newObj_type (wpAny_pure ⟨_, rfl, wpAny_pure h⟩) hdrop)
    | exact wpAny_bind (m := Builtin.Tuple.tupleExact _) (wpAny_newObj_type (wpAny_bind (wpAny_pure (wpAny_pure ⟨_, rfl, wpAny_pure h⟩))) hdrop)
    | exact wpAny_bind (wpAny_bind (m := Builtin.Tuple.tupleExact _) (wpAny_newObj_type (wpAny_pure (wpAny_pure ⟨_, rfl, wpAny_pure h⟩)) hdrop))
    | exact wpAny_bind (wpAny_bind (m := Builtin.Tuple.tupleExact _) (wpAny_newObj_type (wpAny_pure ⟨_, rfl, wpAny_pure h⟩) hdrop))
end
section
variable {X : Cx}
def tRevT (K : PySem.W.Frag) (te : TE) : TE := fun σ H Q => te σ H fun x H1 => ∃ a xs, x = .ref a ∧ SqT K H1 a xs ∧ ∀ p, H1 p = none → Q (.ref p) (upd H1 p (.tup xs.reverse))
theorem pe_revT {e : Expr} {te : TE} {k : Nat} {p1 p2 p3 pos : Pos} (he : PE X e te) : PE X (.Subscript e (.Slice none none (some (.UnaryOp .USub (.Constant (.int 1) k p1) p2)) p3) pos) (tRevT X.K te) := by
  refine ⟨fun pins s σ H Q I h => ?_⟩
  refine Subscript_ (thn (he.run pins s σ H _ I h) fun v s1 ⟨x, H1, I1, r1, q1⟩ => ?_)
  obtain ⟨a, xs, ex, hx, q⟩ := q1
  subst ex
  cases r1
  have hst : PO X (some (.UnaryOp .USub (.Constant (.int 1) k p1) p2)) (tPart (tUn (rU fun i => .int (-i)) (tC (.int 1)))) := po_some (pe_un un_neg pe_int)
  refine wpAny_Slice (thn (po_none.run pins s1 σ H1 (fun o H2 => o = none ∧ H2 = H1) I1 ⟨rfl, rfl⟩) fun vl s2 ⟨l, H2, I2, pl, el, e2⟩ => ?_)
  subst el e2
  refine thn (po_none.run pins s2 σ H2 (fun o H3 => o = none ∧ H3 = H2) I2 ⟨rfl, rfl⟩) fun vu s3 ⟨u, H3, I3, pu, eu, e3⟩ => ?_
  subst eu e3
  refine thn (hst.run pins s3 σ H3 (fun o H4 => o = some (-1) ∧ H4 = H3) I3 ⟨1, rfl, -1, rfl, rfl, rfl⟩) fun vs s4 ⟨o, H4, I4, ps, eo, e4⟩ => ?_
  subst eo e4
  cases pl
  cases pu
  obtain ⟨u, rfl⟩ : ∃ u, vs = .int (-1) u := by
    cases ps
    exact ⟨_, rfl⟩
  have I5 : Inv X pins σ H4 { s4 with heap := s4.heap.push { cls := .type "slice", data := .fields #[.none, .none, .int (-1) u] } } := I4.kept (t' := s4.toks) fun b ob q => Heap.get?_push_of_some _ q
  obtain ⟨its, r, ht, hz⟩ := I5.tuple hx
  have hlen := r.length
  show wpAny (model X.prog X.w) X.A (subscriptTail e (.Slice none none (some (.UnaryOp .USub (.Constant (.int 1) k p1) p2)) p3) (.ref a) (.ref s4.heap.objs.size)) (EP X pins σ Q) X.xe { s4 with heap := s4.heap.push { cls := .type "slice", data := .fields #[.none, .none, .int (-1) u] } }
  refine tail_any (ops := [.ref a, .ref s4.heap.objs.size]) ht.typeIs (PyProof.Rows.slot_tuple_getitem.lookup) ?_ (by with_unfolding_all rfl)
  refine getItem_tuple_rev ht (Heap.IsSliceOf.new _ .none .none (.int (-1) u)) ?_ (by rw [List.size_toArray]; omega)
  refine ⟨.ref _, _, I5.laid (t' := s4.toks) (o := .tup xs.reverse) (fun b ob q => Heap.get?_push_of_some _ q) (Nat.le_refl _) ?_, rfl, q _ (I5.hok.fresh (Nat.le_refl _))⟩
  exact ⟨by rw [List.length_reverse]; exact hz, _, r.reverse, IsTup.new _ _⟩
end
end NW
namespace NW
open PySem PySem.Spec PyProof.Rows L2
open TL (tl)
open StX (pa_star)
/-! ### rows in another order -/
theorem perm_sub {α : Type} {f : α → Str} {A B : List α} (nb : (B.map f).Nodup) (hp : (A.map f).Perm (B.map f)) (hs : ∀ a ∈ A, a ∈ B) : A.Perm B := by
  have na : (A.map f).Nodup := hp.nodup_iff.mpr nb
  refine (List.perm_ext_iff_of_nodup (List.Pairwise.of_map f (fun a b h e => h (by rw [e])) na) (List.Pairwise.of_map f (fun a b h e => h (by rw [e])) nb)).mpr fun x => ⟨hs x, fun hx => ?_⟩
  obtain ⟨a, ma, ea⟩ := List.mem_map.mp (hp.mem_iff.mpr (List.mem_map.mpr ⟨x, hx, rfl⟩))
  rw [← map_uniq nb (hs a ma) hx ea]
  exact ma
theorem FdsE.ofPerm {a b : List Fld} (nd : (a.map (·.1)).Nodup) (h : b.Perm a) : FdsE a b := ⟨(h.map _).symm, fun f mf g mg e => by rw [map_uniq nd mf (h.mem_iff.mp mg) e]⟩
def TuK (ks ks' : List KRow) : Prop := (ks'.map (·.nm)).Perm (ks.map (·.nm)) ∧ ∀ l ∈ ks', ∃ k ∈ ks, l.nm = k.nm ∧ l.fcs.Perm k.fcs ∧ l.fds.Perm k.fds
def TuF (ks ks' : List FRow) : Prop := (ks'.map (·.nm)).Perm (ks.map (·.nm)) ∧ ∀ l ∈ ks', ∃ k ∈ ks, l.nm = k.nm ∧ l.fds.Perm k.fds
def TuU (ks ks' : List URow) : Prop := (ks'.map (·.nm)).Perm (ks.map (·.nm)) ∧ ∀ l ∈ ks', ∃ k ∈ ks, l.nm = k.nm ∧ l.ms.Perm k.ms
section
variable {ks ks' : List KRow} {fs fs' : List FRow} {us us' : List URow} {root : Str}
theorem TuK.e (h : TuK ks ks') (nd : (ks.map (·.nm)).Nodup) (nf : ∀ k ∈ ks, (k.fds.map (·.1)).Nodup) : KsE ks ks' := ⟨h.1.symm, fun k mk l ml e => by
  obtain ⟨k0, m0, e0, p1, p2⟩ := h.2 l ml
  have : k = k0 := map_uniq nd mk m0 (e.trans e0)
  subst this
  exact ⟨p1.symm, .ofPerm (nf k mk) p2⟩⟩
theorem TuF.e (h : TuF fs fs') (nd : (fs.map (·.nm)).Nodup) (nf : ∀ k ∈ fs, (k.fds.map (·.1)).Nodup) : FsE fs fs' := ⟨h.1.symm, fun k mk l ml e => by
  obtain ⟨k0, m0, e0, p2⟩ := h.2 l ml
  have : k = k0 := map_uniq nd mk m0 (e.trans e0)
  subst this
  exact .ofPerm (nf k mk) p2⟩
theorem TuU.e (h : TuU us us') (nd : (us.map (·.nm)).Nodup) : UsE us us' := ⟨h.1.symm, fun k mk l ml e => by
  obtain ⟨k0, m0, e0, p2⟩ := h.2 l ml
  have : k = k0 := map_uniq nd mk m0 (e.trans e0)
  subst this
  exact p2.symm⟩
theorem okS_mem {bs bs' : List Str} (h : ∀ z, z ∈ bs → z ∈ bs') : ∀ {s : Shp} {n : Nat} {o : Bool}, okS bs n o s → okS bs' n o s
  | .base z, n, o, k => by cases n <;> exact h z k
  | .sure s, 0, o, k => by cases k
  | .sure s, n + 1, o, k => ⟨k.1, okS_mem h k.2⟩
  | .list s, 0, o, k => by cases k
  | .list s, n + 1, o, k => okS_mem (s := s) (n := n) (o := false) h k
theorem FdsOk.perm {bs bs' : List Str} {a b : List Fld} {n : Nat} (ok : FdsOk bs a n) (p : b.Perm a) (h : ∀ z, z ∈ bs ↔ z ∈ bs') : FdsOk bs' b n :=
  ⟨by rw [p.length_eq]; exact ok.n0, by rw [p.length_eq]; exact ok.n1, (p.map _).nodup_iff.mpr ok.nd, fun f m => ok.nm f (p.mem_iff.mp m), fun f m => okS_mem (fun z => (h z).mp) (ok.sh f (p.mem_iff.mp m)), fun z m => ok.tx z ((h z).mpr m)⟩
theorem SchOk.turn (ok : SchOk ks fs us root) (hk : TuK ks ks') (hf : TuF fs fs') (hu : TuU us us') : SchOk ks' fs' us' root := by
  have lk : ks'.length = ks.length := by have := hk.1.length_eq; rw [List.length_map, List.length_map] at this; exact this
  have lf : fs'.length = fs.length := by have := hf.1.length_eq; rw [List.length_map, List.length_map] at this; exact this
  have lu : us'.length = us.length := by have := hu.1.length_eq; rw [List.length_map, List.length_map] at this; exact this
  have pb : (bsOf ks' fs' us').Perm (bsOf ks fs us) := by
    unfold bsOf
    exact List.Perm.append_left _ (hk.1.append (hf.1.append hu.1))
  have hb : ∀ z, z ∈ bsOf ks fs us ↔ z ∈ bsOf ks' fs' us' := fun z => pb.mem_iff.symm
  refine ⟨by rw [lk]; exact ok.k0, by rw [lk]; exact ok.k1, by rw [lf]; exact ok.f1, by rw [lu]; exact ok.u1, pb.nodup_iff.mpr ok.nd, fun k m => ?_, fun k m => ?_, fun k m => ?_, fun k m => ?_, fun k m => ?_, fun k m => ?_, fun k m => ?_, fun f mf k mk hc x mx => ?_, fun k m => ?_, hk.1.mem_iff.mpr ok.rt⟩
  · obtain ⟨k0, m0, e0, _⟩ := hk.2 k m
    rw [e0]; exact ok.nk k0 m0
  · obtain ⟨k0, m0, e0, _⟩ := hf.2 k m
    rw [e0]; exact ok.nf k0 m0
  · obtain ⟨k0, m0, e0, _⟩ := hu.2 k m
    rw [e0]; exact ok.nu k0 m0
  · obtain ⟨k0, m0, e0, p1, p2⟩ := hk.2 k m
    obtain ⟨a1, a2, a3⟩ := ok.kf k0 m0
    exact ⟨p1.nodup_iff.mpr a1, fun z mz => hf.1.mem_iff.mpr (a2 z (p1.mem_iff.mp mz)), by rw [p1.length_eq]; exact a3⟩
  · obtain ⟨k0, m0, e0, p1, p2⟩ := hk.2 k m
    exact (ok.kd k0 m0).perm p2 hb
  · obtain ⟨k0, m0, e0, p2⟩ := hf.2 k m
    exact (ok.fd k0 m0).perm p2 hb
  · obtain ⟨k0, m0, e0, p2⟩ := hf.2 k m
    obtain ⟨a, ma, ha⟩ := ok.fk k0 m0
    obtain ⟨b, mb, eb⟩ := List.mem_map.mp (hk.1.mem_iff.mpr (List.mem_map.mpr ⟨a, ma, rfl⟩))
    obtain ⟨a', ma', ea', p1', _⟩ := hk.2 b mb
    have : a = a' := map_uniq ok.ndk ma ma' (eb.symm.trans ea')
    subst this
    exact ⟨b, mb, p1'.mem_iff.mpr (by rw [e0]; exact ha)⟩
  · obtain ⟨f0, mf0, ef0, pf⟩ := hf.2 f mf
    obtain ⟨k0, mk0, ek0, p1, p2⟩ := hk.2 k mk
    obtain ⟨y, my, h1, h2⟩ := ok.ff f0 mf0 k0 mk0 (by rw [← ef0]; exact p1.mem_iff.mp hc) x (pf.mem_iff.mp mx)
    exact ⟨y, p2.mem_iff.mpr my, h1, h2⟩
  · obtain ⟨k0, m0, e0, p2⟩ := hu.2 k m
    obtain ⟨a1, a2, a3, a4⟩ := ok.ud k0 m0
    exact ⟨p2.nodup_iff.mpr a1, by rw [p2.length_eq]; exact a2, by rw [p2.length_eq]; exact a3, fun z mz => hk.1.mem_iff.mpr (a4 z (p2.mem_iff.mp mz))⟩
end
section
variable {P : Program} {w : World} {K : PySem.W.Frag} {mg : Str → Option Value} {base : Heap}
end
end NW
namespace NW
open PySem PySem.Spec PyProof.Rows L2
open TL (tl)
open StX (pa_star)
/-! ### a schema shows its rows in any order -/
def BuiltP (C : Addr) (H : Hp) (x : Addr) (ks : List KRow) (fs : List FRow) (us : List URow) (root : Str) : Prop := ∃ ks' fs' us', TuK ks ks' ∧ TuF fs fs' ∧ TuU us us' ∧ BuiltAt C H x ks' fs' us' root
theorem BuiltP.same {C : Addr} {H H' : Hp} {x : Addr} {ks : List KRow} {fs : List FRow} {us : List URow} {root : Str} (h : BuiltP C H x ks fs us root) (s : Same H H') : BuiltP C H' x ks fs us root := by
  obtain ⟨a, b, c, h1, h2, h3, h4⟩ := h
  exact ⟨a, b, c, h1, h2, h3, h4.same s⟩
theorem Box.same {H H' : Hp} {b r : Addr} (B : Box H b r) (s : Same H H') : Box H' b r := B.gr (Same.gr s) (by
  obtain ⟨xs, e⟩ := B.lst
  rw [e]
  exact s _ _ e)
theorem TuU.refl {us : List URow} : TuU us us := ⟨.refl _, fun l m => ⟨l, m, rfl, .refl _⟩⟩
theorem TuK.refl {ks : List KRow} : TuK ks ks := ⟨.refl _, fun l m => ⟨l, m, rfl, .refl _, .refl _⟩⟩
theorem TuF.refl {ks : List FRow} : TuF ks ks := ⟨.refl _, fun l m => ⟨l, m, rfl, .refl _⟩⟩
theorem BuiltAt.p {C : Addr} {H : Hp} {x : Addr} {ks : List KRow} {fs : List FRow} {us : List URow} {root : Str} (h : BuiltAt C H x ks fs us root) : BuiltP C H x ks fs us root := ⟨_, _, _, .refl, .refl, .refl, h⟩
def sp_kindsP (C : Addr) : Sp := fun vs H Q _ => ∃ (x : Addr) (ks : List KRow) (fs : List FRow) (us : List URow) (root : Str), vs = [.ref x] ∧ BuiltP C H x ks fs us root ∧ ks.length ≤ 6 ∧ fs.length ≤ 3 ∧ us.length ≤ 3 ∧
  ∀ (ys : List Str) (p : Addr) H', ys.Perm (ks.map (·.nm)) → sortedS ys = true → Same H H' → H p = none → H' p = some (.lst (ys.map V.str)) → Q (.ref p) H'
def sp_facesP (C : Addr) : Sp := fun vs H Q _ => ∃ (x : Addr) (ks : List KRow) (fs : List FRow) (us : List URow) (root : Str), vs = [.ref x] ∧ BuiltP C H x ks fs us root ∧ ks.length ≤ 6 ∧ fs.length ≤ 3 ∧ us.length ≤ 3 ∧
  ∀ (ys : List Str) (p : Addr) H', ys.Perm (fs.map (·.nm)) → sortedS ys = true → Same H H' → H p = none → H' p = some (.lst (ys.map V.str)) → Q (.ref p) H'
def sp_unionsP (C : Addr) : Sp := fun vs H Q _ => ∃ (x : Addr) (ks : List KRow) (fs : List FRow) (us : List URow) (root : Str), vs = [.ref x] ∧ BuiltP C H x ks fs us root ∧ ks.length ≤ 6 ∧ fs.length ≤ 3 ∧ us.length ≤ 3 ∧
  ∀ (ys : List Str) (p : Addr) H', ys.Perm (us.map (·.nm)) → sortedS ys = true → Same H H' → H p = none → H' p = some (.lst (ys.map V.str)) → Q (.ref p) H'
def spMembersP (K : PySem.W.Frag) (C CN : Addr) : Sp := fun vs H Q E => ∃ (x : Addr) (y : V) (ks : List KRow) (fs : List FRow) (us : List URow) (root : Str), vs = [.ref x, y] ∧ BuiltP C H x ks fs us root ∧ SchOk ks fs us root ∧
  ((∃ z, y = .str z ∧ z ∈ bsOf ks fs us ∧ ∀ (l : List Str) p H', MemL ks us z l → Same H H' → H p = none → H' p = some (.lst (l.map V.str)) → Q (.ref p) H') ∨
    (((∃ z, y = .str z ∧ z ∉ bsOf ks fs us) ∨ ∃ t, TyX K H y t ∧ PySem.W.kitOne K t (.type "str") = some false) ∧ ∀ d H', Same H H' → H d = none → H' d = some (.xd [("base", y)]) → E (.ref CN) (some d) H'))
def spFieldsP (K : PySem.W.Frag) (C CN : Addr) : Sp := fun vs H Q E => ∃ (x : Addr) (y : V) (ks : List KRow) (fs : List FRow) (us : List URow) (root : Str), vs = [.ref x, y] ∧ BuiltP C H x ks fs us root ∧ SchOk ks fs us root ∧
  ((∃ z, y = .str z ∧ z ∈ bsOf ks fs us ∧ ∀ (fds : List Fld) (l : List Str) p H', FdsOf ks fs z fds → l.Perm (fds.map (·.1)) → sortedS l = true → Same H H' → H p = none → H' p = some (.lst (l.map V.str)) → Q (.ref p) H') ∨
    (((∃ z, y = .str z ∧ z ∉ bsOf ks fs us) ∨ ∃ t, TyX K H y t ∧ PySem.W.kitOne K t (.type "str") = some false) ∧ ∀ d H', Same H H' → H d = none → H' d = some (.xd [("base", y)]) → E (.ref CN) (some d) H'))
def spShapeOfP (K : PySem.W.Frag) (C CN CF : Addr) : Sp := fun vs H Q E => ∃ (x : Addr) (y u : V) (ks : List KRow) (fs : List FRow) (us : List URow) (root : Str), vs = [.ref x, y, u] ∧ BuiltP C H x ks fs us root ∧ SchOk ks fs us root ∧
  ((∃ z, y = .str z ∧ z ∈ bsOf ks fs us ∧ ∀ (fds : List Fld), FdsOf ks fs z fds →
      ((∃ g, u = .str g ∧ ((∃ fl ∈ fds, fl.1 = g ∧ ∀ H', Same H H' → ShAt H' fl.2.1 fl.2.2 → Q fl.2.1 H') ∨ (g ∉ fds.map (·.1) ∧ ∀ d H', Same H H' → H d = none → H' d = some (.xd [("field", u), ("base", y)]) → E (.ref CF) (some d) H'))) ∨
        ((∃ t, (∀ H', Same H H' → TyX K H' u t) ∧ PySem.W.kitOne K t (.type "str") = some false) ∧ ∀ d H', Same H H' → H d = none → H' d = some (.xd [("field", u), ("base", y)]) → E (.ref CF) (some d) H'))) ∨
    (((∃ z, y = .str z ∧ z ∉ bsOf ks fs us) ∨ ∃ t, TyX K H y t ∧ PySem.W.kitOne K t (.type "str") = some false) ∧ ∀ d H', Same H H' → H d = none → H' d = some (.xd [("base", y)]) → E (.ref CN) (some d) H'))
section
variable {ks ks' : List KRow} {fs fs' : List FRow} {us us' : List URow} {root z : Str}
theorem tu_bs (hk : TuK ks ks') (hf : TuF fs fs') (hu : TuU us us') : (bsOf ks' fs' us').Perm (bsOf ks fs us) := by
  unfold bsOf
  exact List.Perm.append_left _ (hk.1.append (hf.1.append hu.1))
theorem FdsOf.tu {fds' : List Fld} (hk : TuK ks ks') (hf : TuF fs fs') (h : FdsOf ks' fs' z fds') : ∃ fds, FdsOf ks fs z fds ∧ fds'.Perm fds := by
  have nk : z ∉ ks'.map (·.nm) → z ∉ ks.map (·.nm) := fun h x => h (hk.1.mem_iff.mpr x)
  have nf : z ∉ fs'.map (·.nm) → z ∉ fs.map (·.nm) := fun h x => h (hf.1.mem_iff.mpr x)
  rcases h with ⟨k, mk, ek, rfl⟩ | ⟨n, f, mf, ef, rfl⟩ | ⟨n1, n2, rfl⟩
  · obtain ⟨k0, m0, e0, _, p⟩ := hk.2 k mk
    exact ⟨k0.fds, .inl ⟨k0, m0, e0.symm.trans ek, rfl⟩, p⟩
  · obtain ⟨k0, m0, e0, p⟩ := hf.2 f mf
    exact ⟨k0.fds, .inr (.inl ⟨nk n, k0, m0, e0.symm.trans ef, rfl⟩), p⟩
  · exact ⟨[], .inr (.inr ⟨nk n1, nf n2, rfl⟩), .refl _⟩
theorem MemL.tu {l : List Str} (nd : (ks.map (·.nm)).Nodup) (hk : TuK ks ks') (hu : TuU us us') (h : MemL ks' us' z l) : MemL ks us z l := by
  obtain ⟨a1, a2, a⟩ := h
  have nk : z ∉ ks'.map (·.nm) → z ∉ ks.map (·.nm) := fun h x => h (hk.1.mem_iff.mpr x)
  have nu : z ∉ us'.map (·.nm) → z ∉ us.map (·.nm) := fun h x => h (hu.1.mem_iff.mpr x)
  refine ⟨a1, a2, ?_⟩
  rcases a with ⟨x1, rfl⟩ | ⟨x1, u, mu, eu, p⟩ | ⟨x1, x2, p⟩
  · exact .inl ⟨hk.1.mem_iff.mp x1, rfl⟩
  · obtain ⟨u0, m0, e0, p0⟩ := hu.2 u mu
    exact .inr (.inl ⟨nk x1, u0, m0, e0.symm.trans eu, p.trans p0⟩)
  · refine .inr (.inr ⟨nk x1, nu x2, p.trans ?_⟩)
    have nd' : (ks'.map (·.nm)).Nodup := hk.1.nodup_iff.mpr nd
    refine (List.perm_ext_iff_of_nodup (nd'.sublist (List.Sublist.map _ List.filter_sublist)) (nd.sublist (List.Sublist.map _ List.filter_sublist))).mpr fun y => ?_
    constructor
    · intro m
      obtain ⟨k, mk, rfl⟩ := List.mem_map.mp m
      obtain ⟨m1, m2⟩ := List.mem_filter.mp mk
      obtain ⟨k0, m0, e0, p1, _⟩ := hk.2 k m1
      exact List.mem_map.mpr ⟨k0, List.mem_filter.mpr ⟨m0, decide_eq_true (p1.mem_iff.mp (of_decide_eq_true m2))⟩, e0.symm⟩
    · intro m
      obtain ⟨k, mk, rfl⟩ := List.mem_map.mp m
      obtain ⟨m1, m2⟩ := List.mem_filter.mp mk
      obtain ⟨l0, ml0, el0⟩ := List.mem_map.mp (hk.1.mem_iff.mpr (List.mem_map.mpr ⟨k, m1, rfl⟩))
      obtain ⟨k0, m0, e0, p1, _⟩ := hk.2 l0 ml0
      have : k = k0 := map_uniq nd m1 m0 (el0.symm.trans e0)
      subst this
      exact List.mem_map.mpr ⟨l0, List.mem_filter.mpr ⟨ml0, decide_eq_true (p1.mem_iff.mpr (of_decide_eq_true m2))⟩, el0⟩
end
theorem tlen {α β : Type} {f : α → β} {a b : List α} (h : (b.map f).Perm (a.map f)) : b.length = a.length := by
  have := h.length_eq
  rw [List.length_map, List.length_map] at this
  exact this
section
variable {P : Program} {w : World} {K : PySem.W.Frag} {mg : Str → Option Value} {base : Heap} {CX : CXT} {j : Nat} {f C CN CF : Addr} {fd : FuncData} {ps : List Str}
theorem kindsP (G : FnOk P w K mg base CX j f fd ps (sp_kinds C)) : FnOk P w K mg base CX j f fd ps (sp_kindsP C) := G.imp fun vs H Q E h => by
  obtain ⟨x, ks, fs, us, root, rfl, ⟨ks', fs', us', hk, hf, hu, Bt⟩, l1, l2, l3, q⟩ := h
  exact ⟨x, ks', fs', us', root, rfl, Bt, by rw [tlen hk.1]; exact l1, by rw [tlen hf.1]; exact l2, by rw [tlen hu.1]; exact l3, fun ys p H' py => q ys p H' (py.trans hk.1)⟩
theorem facesP (G : FnOk P w K mg base CX j f fd ps (sp_faces C)) : FnOk P w K mg base CX j f fd ps (sp_facesP C) := G.imp fun vs H Q E h => by
  obtain ⟨x, ks, fs, us, root, rfl, ⟨ks', fs', us', hk, hf, hu, Bt⟩, l1, l2, l3, q⟩ := h
  exact ⟨x, ks', fs', us', root, rfl, Bt, by rw [tlen hk.1]; exact l1, by rw [tlen hf.1]; exact l2, by rw [tlen hu.1]; exact l3, fun ys p H' py => q ys p H' (py.trans hf.1)⟩
theorem unionsP (G : FnOk P w K mg base CX j f fd ps (sp_unions C)) : FnOk P w K mg base CX j f fd ps (sp_unionsP C) := G.imp fun vs H Q E h => by
  obtain ⟨x, ks, fs, us, root, rfl, ⟨ks', fs', us', hk, hf, hu, Bt⟩, l1, l2, l3, q⟩ := h
  exact ⟨x, ks', fs', us', root, rfl, Bt, by rw [tlen hk.1]; exact l1, by rw [tlen hf.1]; exact l2, by rw [tlen hu.1]; exact l3, fun ys p H' py => q ys p H' (py.trans hu.1)⟩
theorem membersP (G : FnOk P w K mg base CX j f fd ps (spMembers K C CN)) : FnOk P w K mg base CX j f fd ps (spMembersP K C CN) := G.imp fun vs H Q E h => by
  obtain ⟨x, y, ks, fs, us, root, rfl, ⟨ks', fs', us', hk, hf, hu, Bt⟩, ok, q⟩ := h
  have hb := tu_bs hk hf hu
  refine ⟨x, y, ks', fs', us', root, rfl, Bt, ok.turn hk hf hu, ?_⟩
  rcases q with ⟨z, rfl, hz, q⟩ | ⟨⟨z, rfl, hz⟩ | ht, q⟩
  · exact .inl ⟨z, rfl, hb.mem_iff.mpr hz, fun l p H' m => q l p H' (m.tu ok.ndk hk hu)⟩
  · exact .inr ⟨.inl ⟨z, rfl, fun m => hz (hb.mem_iff.mp m)⟩, q⟩
  · exact .inr ⟨.inr ht, q⟩
theorem fieldsP (G : FnOk P w K mg base CX j f fd ps (spFields K C CN)) : FnOk P w K mg base CX j f fd ps (spFieldsP K C CN) := G.imp fun vs H Q E h => by
  obtain ⟨x, y, ks, fs, us, root, rfl, ⟨ks', fs', us', hk, hf, hu, Bt⟩, ok, q⟩ := h
  have hb := tu_bs hk hf hu
  refine ⟨x, y, ks', fs', us', root, rfl, Bt, ok.turn hk hf hu, ?_⟩
  rcases q with ⟨z, rfl, hz, q⟩ | ⟨⟨z, rfl, hz⟩ | ht, q⟩
  · refine .inl ⟨z, rfl, hb.mem_iff.mpr hz, fun fds' l p H' m pl => ?_⟩
    obtain ⟨fds, h1, h2⟩ := m.tu hk hf
    exact q fds l p H' h1 (pl.trans (h2.map _))
  · exact .inr ⟨.inl ⟨z, rfl, fun m => hz (hb.mem_iff.mp m)⟩, q⟩
  · exact .inr ⟨.inr ht, q⟩
theorem shape_ofP (G : FnOk P w K mg base CX j f fd ps (spShapeOf K C CN CF)) : FnOk P w K mg base CX j f fd ps (spShapeOfP K C CN CF) := G.imp fun vs H Q E h => by
  obtain ⟨x, y, u, ks, fs, us, root, rfl, ⟨ks', fs', us', hk, hf, hu, Bt⟩, ok, q⟩ := h
  have hb := tu_bs hk hf hu
  refine ⟨x, y, u, ks', fs', us', root, rfl, Bt, ok.turn hk hf hu, ?_⟩
  rcases q with ⟨z, rfl, hz, q⟩ | ⟨⟨z, rfl, hz⟩ | ht, q⟩
  · refine .inl ⟨z, rfl, hb.mem_iff.mpr hz, fun fds' m => ?_⟩
    obtain ⟨fds, h1, h2⟩ := m.tu hk hf
    rcases q fds h1 with ⟨g, rfl, ⟨fl, mfl, r⟩ | ⟨n, r⟩⟩ | r
    · exact .inl ⟨g, rfl, .inl ⟨fl, h2.mem_iff.mpr mfl, r⟩⟩
    · exact .inl ⟨g, rfl, .inr ⟨fun z => n ((h2.map _).mem_iff.mp z), r⟩⟩
    · exact .inr r
  · exact .inr ⟨.inl ⟨z, rfl, fun m => hz (hb.mem_iff.mp m)⟩, q⟩
  · exact .inr ⟨.inr ht, q⟩
end
section
variable {P : Program} {w : World} {K : PySem.W.Frag} {mg : Str → Option Value} {base : Heap}
def spLshowsP (C : Addr) : Sp := fun vs H Q _ => ∃ (x q kt ft ut : Addr) (ks : List KRow) (fs : List FRow) (us : List URow) (root : Str), vs = [.ref x, .ref q] ∧ BuiltP C H x ks fs us root ∧ SchT H q kt ft ut ks fs us root ∧ ∀ H', Same H H' → Q (.bl true) H'
theorem ok_LshowsP {f f1 f2 f3 f4 f5 f6 f7 f8 f9 f10 C CN CF : Addr} {fd fd1 fd2 fd3 fd4 fd5 fd6 fd7 fd8 fd9 fd10 : FuncData} (D : Df K mg "_law_shows" s_Lshows f fd ["_law_built", "_law_schema_here"])
    (D_Lsame : Df K mg "_law_same" s_Lsame f1 fd1 ["_law_one", "_law_other"]) (G_Lsame : FnOk P w K mg base CX0 5 f1 fd1 ["_law_one", "_law_other"] (spLsame 4))
    (M_kinds : Mt K C "kinds" "Schema.kinds" s_Schema_kinds f2 fd2 ["self"]) (G_kinds : FnOk P w K mg base CX0 1 f2 fd2 ["self"] (sp_kindsP C))
    (M_faces : Mt K C "faces" "Schema.faces" s_Schema_faces f3 fd3 ["self"]) (G_faces : FnOk P w K mg base CX0 1 f3 fd3 ["self"] (sp_facesP C))
    (M_unions : Mt K C "unions" "Schema.unions" s_Schema_unions f4 fd4 ["self"]) (G_unions : FnOk P w K mg base CX0 1 f4 fd4 ["self"] (sp_unionsP C))
    (D_Lbases : Df K mg "_law_bases" s_Lbases f5 fd5 ["_law_schema_here"]) (G_Lbases : FnOk P w K mg base CX0 1 f5 fd5 ["_law_schema_here"] spLbases)
    (M_members : Mt K C "members" "Schema.members" s_Schema_members f6 fd6 ["self", "base"]) (G_members : FnOk P w K mg base (L2N.CX P w) 4 f6 fd6 ["self", "base"] (spMembersP K C CN))
    (D_Lmembers : Df K mg "_law_members" s_Lmembers f7 fd7 ["_law_schema_here", "_law_base"]) (G_Lmembers : FnOk P w K mg base CX0 1 f7 fd7 ["_law_schema_here", "_law_base"] spLmembers)
    (D_Ltable : Df K mg "_law_table" s_Ltable f8 fd8 ["_law_schema_here", "_law_base"]) (G_Ltable : FnOk P w K mg base CX0 1 f8 fd8 ["_law_schema_here", "_law_base"] spLtable)
    (M_fields : Mt K C "fields" "Schema.fields" s_Schema_fields f9 fd9 ["self", "base"]) (G_fields : FnOk P w K mg base (L2N.CX P w) 5 f9 fd9 ["self", "base"] (spFieldsP K C CN))
    (M_shape_of : Mt K C "shape_of" "Schema.shape_of" s_Schema_shape_of f10 fd10 ["self", "base", "field"]) (G_shape_of : FnOk P w K mg base (L2N.CX P w) 5 f10 fd10 ["self", "base", "field"] (spShapeOfP K C CN CF))
    (T : Nms mg) (L : ClT K C) : FnOk P w K mg base CX0 6 f fd ["_law_built", "_law_schema_here"] (spLshowsP C) := by
  refine D.F.ok sc_Lshows (fun vs H Q E h => ?_) (fun cdv A outer s H vs Q E hr h => ?_)
  · obtain ⟨x, q, kt, ft, ut, ks, fs, us, root, rfl, _⟩ := h
    rfl
  · obtain ⟨x, q0, kt, ft, ut, ks, fs, us, root, rfl, Bt, ⟨hq, S, ok⟩, qq⟩ := h
    have hu := hu_of hr
    refine ⟨_, (pss_cons (ps_if (pt_not (pt_val (pe_call G_Lsame (hr.mono (by decide)) (by rfl) D_Lsame.g D_Lsame.F.kp D_Lsame.b .nil pass0 (pa_cons (pe_lst (pa_cons (pe_meth0 (pv 0) L.cl M_kinds.m G_kinds (hr.mono (by decide)) M_kinds.b .nil pass0) (pa_cons (pe_meth0 (pv 0) L.cl M_faces.m G_faces (hr.mono (by decide)) M_faces.b .nil pass0) pa_nil))) (pa_cons (pe_lst (pa_cons (pe_callB (call_sortedD rfl) (by rfl) T.n_sorted (by decide +kernel) (pa_cons (pe_ix ix_tup (pv 1) pe_int (fun _ _ => rfl)) pa_nil)) (pa_cons (pe_callB (call_sortedD rfl) (by rfl) T.n_sorted (by decide +kernel) (pa_cons (pe_ix ix_tup (pv 1) pe_int (fun _ _ => rfl)) pa_nil)) pa_nil))) pa_nil)))))
       (pss_one (ps_ret pe_bl))
       pss_nil)
      (pss_cons (ps_if (PW.pt (pw_or (pt_not (pt_val (pe_call G_Lsame (hr.mono (by decide)) (by rfl) D_Lsame.g D_Lsame.F.kp D_Lsame.b .nil pass0 (pa_cons (pe_meth0 (pv 0) L.cl M_unions.m G_unions (hr.mono (by decide)) M_unions.b .nil pass0) (pa_cons (pe_callB (call_sortedD rfl) (by rfl) T.n_sorted (by decide +kernel) (pa_cons (pe_ix ix_tup (pv 1) pe_int (fun _ _ => rfl)) pa_nil)) pa_nil))))) (pw_or1 (pt_not (pt_val (pe_call G_Lsame (hr.mono (by decide)) (by rfl) D_Lsame.g D_Lsame.F.kp D_Lsame.b .nil pass0 (pa_cons (pe_fld (pv 0) rfl) (pa_cons (pe_ix ix_tup (pv 1) pe_int (fun _ _ => rfl)) pa_nil))))))))
       (pss_one (ps_ret pe_bl))
       pss_nil)
      (pss_cons (ps_for PassesOwn.never rfl (pi_list (pe_call G_Lbases (hr.mono (by decide)) (by rfl) D_Lbases.g D_Lbases.F.kp D_Lbases.b .nil pass0 (pa_cons (pv 1) pa_nil))) (pg_name (i := 2) sc_Lshows.nd rfl (.inl rfl))
       (pss_cons (ps_if (pt_not (pt_val (pe_call G_Lsame (hr.mono (by decide)) (by rfl) D_Lsame.g D_Lsame.F.kp D_Lsame.b .nil pass0 (pa_cons (pe_meth (pv 0) L.cl M_members.m G_members (hr.mono (by decide)) M_members.b .nil passA (pa_cons (pv 2) pa_nil)) (pa_cons (pe_call G_Lmembers (hr.mono (by decide)) (by rfl) D_Lmembers.g D_Lmembers.F.kp D_Lmembers.b .nil pass0 (pa_cons (pv 1) (pa_cons (pv 2) pa_nil))) pa_nil)))))
         (pss_one (ps_ret pe_bl))
         pss_nil)
        (pss_cons (ps_set (i := 3) sc_Lshows.nd rfl (.inl rfl) (pe_call G_Ltable (hr.mono (by decide)) (by rfl) D_Ltable.g D_Ltable.F.kp D_Ltable.b .nil pass0 (pa_cons (pv 1) (pa_cons (pv 2) pa_nil))))
        (pss_cons (ps_if (pt_not (pt_val (pe_call G_Lsame (hr.mono (by decide)) (by rfl) D_Lsame.g D_Lsame.F.kp D_Lsame.b .nil pass0 (pa_cons (pe_meth (pv 0) L.cl M_fields.m G_fields (hr.mono (by decide)) M_fields.b .nil passA (pa_cons (pv 2) pa_nil)) (pa_cons (pe_callB (call_sortedD rfl) (by rfl) T.n_sorted (by decide +kernel) (pa_cons (pv 3) pa_nil)) pa_nil)))))
         (pss_one (ps_ret pe_bl))
         pss_nil)
        (pss_one (ps_for PassesOwn.never rfl (pi_list (pe_callB (call_sortedD rfl) (by rfl) T.n_sorted (by decide +kernel) (pa_cons (pv 3) pa_nil))) (pg_name (i := 4) sc_Lshows.nd rfl (.inl rfl))
         (pss_one (ps_if (pt_not (pt_val (pe_call G_Lsame (hr.mono (by decide)) (by rfl) D_Lsame.g D_Lsame.F.kp D_Lsame.b .nil pass0 (pa_cons (pe_meth (pv 0) L.cl M_shape_of.m G_shape_of (hr.mono (by decide)) M_shape_of.b .nil passA (pa_cons (pv 2) (pa_cons (pv 4) pa_nil))) (pa_cons (pe_dget hu (pv 3) (pv 4) (fun _ _ => rfl)) pa_nil)))))
           (pss_one (ps_ret pe_bl))
           pss_nil))))))))
      (pss_one (ps_ret pe_bl))))), ?_⟩
    have hS : ∀ n : Nat, n ≤ 1000 → n ≤ sizeLine := fun n h => Nat.le_trans h (by decide)
    have k1 := ok.k1
    have f1' := ok.f1
    have u1 := ok.u1
    have BtA : ∀ {H2 : Hp}, Same H H2 → BuiltP C H2 x ks fs us root := fun s => Bt.same s
    have STA : ∀ {H2 : Hp}, Same H H2 → SchT H2 q0 kt ft ut ks fs us root := fun s => ⟨s _ _ hq, S.same s, ok⟩
    have insx : ∀ H', Same H H' → ∃ dx kt' ft' ut', H' x = some (.ins C dx (pfs kt' ft' ut' root)) := fun H' s => by
      obtain ⟨_, _, _, _, _, _, dx, kt', ft', ut', _, _, _, hx, _⟩ := Bt
      exact ⟨dx, kt', ft', ut', s _ _ hx⟩
    have sz : ∀ H', Same H H' → SqT K H' q0 [.ref kt, .ref ft, .ref ut, .str root] := fun H' s => .inl (.inl (s _ _ hq))
    have s00 : Same H H := fun _ _ e => e
    obtain ⟨dx, kt', ft', ut', hx⟩ := insx H s00
    -- [built.kinds(), built.faces()]
    refine ⟨.ref x, rfl, x, dx, _, rfl, hx, lkn _ _ _ _ (by decide +kernel) (by decide +kernel) (by decide +kernel) (by decide +kernel), x, ks, fs, us, root, rfl, Bt, k1, f1', u1, fun ys1 p1 Ha pm1 so1 sa na ea => ?_⟩
    refine ⟨.ref x, rfl, x, dx, _, rfl, sa _ _ hx, lkn _ _ _ _ (by decide +kernel) (by decide +kernel) (by decide +kernel) (by decide +kernel), x, ks, fs, us, root, rfl, BtA sa, k1, f1', u1, fun ys2 p2 Hb pm2 so2 sb nb' eb => ⟨hS 2 (by decide), fun pg npg => ?_⟩⟩
    have sHb := sa.trans sb
    have sd := same_new (o := .lst [.ref p1, .ref p2]) npg
    have sHd := sHb.trans sd
    have e1 := sd _ _ (sb _ _ ea)
    have e2 := sd _ _ eb
    have eg : (upd Hb pg (.lst [.ref p1, .ref p2])) pg = some (.lst [.ref p1, .ref p2]) := upd_same
    generalize upd Hb pg (.lst [.ref p1, .ref p2]) = Hd at sd sHd e1 e2 eg
    have l1 : ys1.length ≤ 6 := by rw [pm1.length_eq, List.length_map]; omega
    have l2 : ys2.length ≤ 6 := by rw [pm2.length_eq, List.length_map]; omega
    have STd := STA sHd
    refine ⟨.ref q0, rfl, q0, _, 0, _, rfl, rfl, sz Hd sHd, atI_nat (j := 0) rfl, kt, kkv ks, _, rfl, .inl STd.2.1.kd, kkv_keys _, (by rw [List.length_map]; omega), fun zs1 r1 pz1 sz1 nr1 => ?_⟩
    have t1 := same_new (o := .lst (zs1.map V.str)) nr1
    refine ⟨.ref q0, rfl, q0, _, 1, _, rfl, rfl, sz _ (sHd.trans t1), atI_nat (j := 1) rfl, ft, fkvs fs, _, rfl, .inl (t1 _ _ STd.2.1.fd), fkvs_keys _, (by rw [List.length_map]; omega), fun zs2 r2 pz2 sz2 nr2 => ⟨hS 2 (by decide), fun pr npr => ?_⟩⟩
    have t2 := same_new (o := .lst (zs2.map V.str)) nr2
    have t3 := same_new (o := .lst [.ref r1, .ref r2]) npr
    have t13 := (t1.trans t2).trans t3
    have h1 := sorted_one so1 sz1 (pm1.trans pz1.symm)
    have h2 := sorted_one so2 sz2 (pm2.trans pz2.symm)
    subst h1 h2
    have sm : SameV 2 _ (.ref pg) (.ref pr) := .inr (.inl ⟨pg, pr, _, _, rfl, rfl, .inl ⟨t13 _ _ eg, upd_same⟩, rfl, by show 2 ≤ 1000; decide, fun i u v eu ev => by
      match i, eu, ev with
      | 0, eu, ev =>
        cases eu
        cases ev
        exact SameV.strs (t13 _ _ e1) ((t2.trans t3) _ _ upd_same) (by omega)
      | 1, eu, ev =>
        cases eu
        cases ev
        exact SameV.strs (t13 _ _ e2) (t3 _ _ upd_same) (by omega)
      | n + 2, eu, _ => cases eu⟩)
    refine ⟨_, _, rfl, SameV.le (by decide) sm, fun He se => ⟨true, rfl, iteF ?_⟩⟩
    have sHe := sHd.trans (t13.trans se)
    clear sm
    -- built.unions()
    obtain ⟨dx, kt', ft', ut', hx⟩ := insx He sHe
    refine ⟨.ref x, rfl, x, dx, _, rfl, hx, lkn _ _ _ _ (by decide +kernel) (by decide +kernel) (by decide +kernel) (by decide +kernel), x, ks, fs, us, root, rfl, BtA sHe, k1, f1', u1, fun ys3 p3 Hf pm3 so3 sf nf ef => ?_⟩
    have sHf := sHe.trans sf
    refine ⟨.ref q0, rfl, q0, _, 2, _, rfl, rfl, sz Hf sHf, atI_nat (j := 2) rfl, ut, ukv us, _, rfl, .inl (STA sHf).2.1.ud, ukv_keys _, (by rw [List.length_map]; omega), fun zs3 r3 pz3 sz3 nr3 => ?_⟩
    have h3 := sorted_one so3 sz3 (pm3.trans pz3.symm)
    subst h3
    have l3 : ys3.length ≤ 6 := by rw [pm3.length_eq, List.length_map]; omega
    have t4 := same_new (o := .lst (ys3.map V.str)) nr3
    refine ⟨_, _, rfl, SameV.le (by decide) (SameV.strs (t4 _ _ ef) upd_same (by omega)), fun Hg sg => ⟨true, rfl, iteF ?_⟩⟩
    have sHg := (sHf.trans t4).trans sg
    -- built.root
    obtain ⟨dx, kt', ft', ut', hx⟩ := insx Hg sHg
    refine ⟨.ref x, rfl, x, C, dx, _, _, rfl, hx, L.cl, L.nr, lkr .., .ref q0, rfl, q0, _, 3, _, rfl, rfl, sz Hg sHg, atI_nat (j := 3) rfl, _, _, rfl, SameV.strV, fun Hh sh => ⟨true, rfl, iteF ?_⟩⟩
    have sHh := sHg.trans sh
    -- the bases
    refine ⟨.ref q0, rfl, q0, kt, ft, ut, ks, fs, us, root, rfl, STA sHh, fun LB pb Hi pl si ni ei => ?_⟩
    have sHi := sHh.trans si
    have hLBm : ∀ z, z ∈ LB → z ∈ bsOf ks fs us := fun z m => by
      have := pl.mem_iff.mp m
      rw [List.append_assoc] at this
      exact List.mem_append_right _ this
    refine ⟨pb, rfl, ⟨_, SqL.of ei⟩, for_list (xs := LB.map V.str) (fun j σ H4 => ∃ y2 y3 y4 : Option V, σ = [some (.ref x), some (.ref q0), y2, y3, y4] ∧ Same Hi H4) ?_ ?_ ?_ ?_⟩
    · exact ⟨_, _, _, rfl, fun _ _ e => e⟩
    · rintro j σ H4 _ ⟨_, _, _, _, s4⟩
      exact SqL.of (s4 _ _ ei)
    · rintro j y σ H4 ey ⟨y2, y3, y4, rfl, s4⟩
      obtain ⟨z, hz, rfl⟩ := List.mem_map.mp (List.mem_of_getElem? ey)
      have hzb := hLBm z hz
      have sH4 := sHi.trans s4
      obtain ⟨dx, kt', ft', ut', hx⟩ := insx H4 sH4
      refine ⟨.ref x, rfl, x, dx, _, rfl, hx, lkn _ _ _ _ (by decide +kernel) (by decide +kernel) (by decide +kernel) (by decide +kernel), .str z, rfl, x, .str z, ks, fs, us, root, rfl, BtA sH4, ok, .inl ⟨z, rfl, hzb, fun m1 pm H5 ml1 s5 nm em => ?_⟩⟩
      refine ⟨.ref q0, rfl, .str z, rfl, q0, kt, ft, ut, ks, fs, us, root, z, rfl, STA (sH4.trans s5), fun m2 pm2 H6 ml2 s6 nm2 em2 => ?_⟩
      have s46 := s5.trans s6
      cases MemL.one ok.ndu ml1 ml2
      refine ⟨_, _, rfl, SameV.le (by decide) (SameV.strs (s6 _ _ em) em2 (by have := ml1.2.1; omega)), fun H7 s7 => ⟨true, rfl, iteF ?_⟩⟩
      have s47 := s46.trans s7
      have sH7 := sH4.trans s47
      -- the table
      refine ⟨.ref q0, rfl, .str z, rfl, q0, kt, ft, ut, ks, fs, us, root, z, rfl, STA sH7, fun fds d H8 hf sh8 s8 e8 => ?_⟩
      have sH8 := sH7.trans s8
      have few := hf.few ok
      have fnd := hf.nd ok
      have hsz : (fds.map (·.1)).length < 64 := by
        rw [List.length_map]
        omega
      obtain ⟨dx, kt', ft', ut', hx⟩ := insx H8 sH8
      refine ⟨.ref x, rfl, x, dx, _, rfl, hx, lkn _ _ _ _ (by decide +kernel) (by decide +kernel) (by decide +kernel) (by decide +kernel), .str z, rfl, x, .str z, ks, fs, us, root, rfl, BtA sH8, ok, .inl ⟨z, rfl, hzb, fun fds1 l1 q1 H9 hf1 pm1 so1 s9 n1 e1 => ?_⟩⟩
      cases hf.uniq ok hf1
      refine ⟨.ref d, rfl, d, fkv fds, _, rfl, .inl (s9 _ _ e8), fkv_keys fds, hsz, fun ys1 r1 pys1 sys1 nr1 => ?_⟩
      cases sorted_one so1 sys1 (pm1.trans pys1.symm)
      have t9 := same_new (o := .lst (l1.map V.str)) nr1
      have hl1 : l1.length ≤ 5 := by rw [pm1.length_eq, List.length_map]; exact few
      refine ⟨_, _, rfl, ((SameV.strs (t9 _ _ e1) upd_same (by omega)).le (by decide)), fun H10 s10 => ⟨true, rfl, iteF ?_⟩⟩
      have s810 := (s9.trans t9).trans s10
      have e10 := s810 _ _ e8
      -- each field
      refine ⟨.ref d, rfl, d, fkv fds, _, rfl, .inl e10, fkv_keys fds, hsz, fun ys2 r2 pys2 sys2 nr2 => ⟨r2, rfl, ⟨_, SqL.of upd_same⟩, ?_⟩⟩
      have t10 := same_new (o := .lst (ys2.map V.str)) nr2
      refine for_list (xs := ys2.map V.str) (fun j σ H11 => ∃ y4 : Option V, σ = [some (.ref x), some (.ref q0), some (.str z), some (.ref d), y4] ∧ Same (upd H10 r2 (.lst (ys2.map V.str))) H11) ?_ ?_ ?_ ?_
      · exact ⟨_, rfl, fun _ _ e => e⟩
      · rintro j σ H11 _ ⟨_, _, s11⟩
        exact SqL.of (s11 _ _ upd_same)
      · rintro j y σ H11 ey2 ⟨y4', rfl, s11⟩
        obtain ⟨g, hg, rfl⟩ := List.mem_map.mp (List.mem_of_getElem? ey2)
        obtain ⟨fl, fm, rfl⟩ := List.mem_map.mp (pys2.mem_iff.mp hg)
        have s811 := (s810.trans t10).trans s11
        have sH11 := sH8.trans s811
        obtain ⟨dx, kt', ft', ut', hx⟩ := insx H11 sH11
        refine ⟨.ref x, rfl, x, dx, _, rfl, hx, lkn _ _ _ _ (by decide +kernel) (by decide +kernel) (by decide +kernel) (by decide +kernel), .str z, rfl, .str fl.1, rfl, x, .str z, .str fl.1, ks, fs, us, root, rfl, BtA sH11, ok, .inl ⟨z, rfl, hzb, fun fds' hf' => ?_⟩⟩
        cases hf.uniq ok hf'
        refine .inl ⟨fl.1, rfl, .inl ⟨fl, fm, rfl, fun H12 s12 sh12 => ?_⟩⟩
        have hv : valV (fkv fds) (Sum.inr fl.1) = some fl.2.1 := valV_map (f := fun f : Fld => f.1) (g := fun f => f.2.1) fnd fm
        refine ⟨.ref d, rfl, .str fl.1, rfl, d, fl.2.1, rfl, .inl ⟨fkv fds, .inr fl.1, .inl ((s811.trans s12) _ _ e8), rfl, hv.symm⟩, ?_⟩
        refine ⟨_, _, rfl, SameV.le (okS_dep (hf.ok ok fm)) sh12.self, fun H13 s13 => ⟨true, rfl, iteF ?_⟩⟩
        exact ⟨_, rfl, (s11.trans s12).trans s13⟩
      · rintro σ H11 ⟨y4', rfl, s11⟩
        exact ⟨_, _, _, rfl, s4.trans (s47.trans (s8.trans ((s810.trans t10).trans s11)))⟩
    · rintro σ H4 ⟨y2, y3, y4, rfl, s4⟩
      exact qq H4 (sHi.trans s4)
end
end NW
namespace NW
open PySem PySem.Spec PyProof.Rows L2
/-! ### for k, v in d.items(), the keys of d tuples -/
section
variable {P : Program} {w : World} {X : Cx} {pins : List (Addr × Obj)} {σ : L2.St} {H : Hp} {s : Shared} {K : PySem.W.Frag} {d : Addr} {o : Obj} {es : Array DictEntry} {ep : Nat} {kvs : List (List Key × V)}
theorem frzT2 (I : Inv X pins σ H s) (h : H d = some (.frz o (.dT kvs))) :
    (d == sysModules) = false ∧ s.heap.get? d = some o ∧ o.ExactDict ∧ ∃ (es : Array DictEntry) (ep : Nat), o.data = .dict es ep ∧ es.size = kvs.length ∧
      ∀ (i : Nat) (k : List Key) (v : V), kvs[i]? = some (k, v) → ∃ (en : DictEntry) (q : Addr), es[i]? = some en ∧ en.key = .ref q ∧ H q = some (.tup (k.map kV)) ∧ RelV v en.val := by
  obtain ⟨hgd, few, ns, xs, pr, o2, es, ep, ho, hx, hdt, ents, _⟩ := I.hok d _ h
  rw [hgd] at ho
  cases ho
  have l1 : es.size = xs.length := size_of_entries ents
  have l2 : kvs.length = xs.length := Paired.length pr
  refine ⟨ns, hgd, hx, es, ep, hdt, by omega, fun i k v e => ?_⟩
  obtain ⟨b, hb, e1, e2, e3⟩ := paired_get pr e
  have q := entry_at ents i
  rw [hb] at q
  exact ⟨_, b.2.1, q, rfl, e2, e3⟩
/-- the pairs, each a new tuple of the key's own tuple and of the value -/
def Itit (d : Addr) (o : Obj) (kvs : List (List Key × V)) : It :=
  ⟨fun i H => H d = some (.frz o (.dT kvs)) ∧ i < kvs.length, fun i H x H' => ∃ (T : Addr) (k : List Key) (v : V) (q : Addr), kvs[i]? = some (k, v) ∧ x = .ref T ∧ H T = none ∧ H q = some (.tup (k.map kV)) ∧ H' = upd H T (.tup [.ref q, v]), fun i H => H d = some (.frz o (.dT kvs)) ∧ kvs.length ≤ i⟩
theorem turn_itemsT {elts : List Expr} {kk : Nat} {tpos : Pos} (it : Addr) (hod : o.data = .dict es ep) :
    Turn P w K (.Tuple elts kk tpos) (Itit d o kvs) [it] it (fun i g => ∃ ky vl, IsItemIter g it d i kvs.length ep ky vl) where
  mem := by simp
  obj := fun i g st b hb => by
    obtain rfl : b = it := by simpa using hb
    obtain ⟨_, _, e⟩ := st
    exact ⟨_, e, fun v z => nomatch z⟩
  keep := fun i g g' st k => by
    obtain ⟨ky, vl, e⟩ := st
    exact ⟨ky, vl, k it (by simp) _ e⟩
  item := by
    intro X p1 p2 p3 hc i pins s σ H E I hf st hg
    subst p1 p2 p3
    obtain ⟨hd, hi⟩ := hg
    obtain ⟨ns, hgd, hx, es', ep', hdt, hsz, ent⟩ := frzT2 I hd
    obtain ⟨rfl, rfl⟩ := dict_ep hod hdt
    obtain ⟨⟨k, v⟩, hkv⟩ : ∃ p, kvs[i]? = some p := ⟨kvs[i], List.getElem?_eq_getElem hi⟩
    obtain ⟨en, q, hen, hkey, hq, rv⟩ := ent i k v hkv
    obtain ⟨ky, vl, he⟩ := st
    rw [← hsz] at he
    have lti : it < s.heap.objs.size := Heap.lt_size he
    have his : i < es'.size := by omega
    have een : es'[i] = en := by
      rw [Array.getElem?_eq_getElem his] at hen
      exact Option.some.inj hen
    refine DT.nextI he ⟨o, hgd, hx, hdt⟩ his fun h1 out hT hz kept => ?_
    rw [een] at out hT
    refine ⟨_, rfl, wpAny_letOwnedTupleGo_items (s := { s with heap := h1 }) out fun h2 he2 sb => ?_⟩
    have hT2 : h2.get? s.heap.objs.size = some { cls := .type "tuple", data := .seq #[en.key, en.val] } := (sb.2 _ (Nat.ne_of_gt lti)).trans hT
    have new : ObjOk X.prog X.w (upd H s.heap.objs.size (.tup [.ref q, v])) h2 s.heap.objs.size (.tup [.ref q, v]) :=
      ⟨by show 2 ≤ sizeLine; decide, [en.key, en.val], .cons hkey (.cons rv .nil), ⟨_, hT2, rfl, _, rfl⟩⟩
    have J : Inv X pins σ (upd H s.heap.objs.size (.tup [.ref q, v])) { s with heap := h2 } :=
      I.turnedNew (t' := s.toks) (ch := [it]) (fun b ob hb e => (sb.2 b (by simpa using hb)).trans (kept b ob (by simpa using hb) e)) hf (Nat.le_refl _) new
    refine ⟨.ref s.heap.objs.size, _, J, rfl, ⟨_, k, v, q, hkv, rfl, I.hok.fresh (Nat.le_refl _), hq, rfl⟩, ⟨en.key, en.val, ?_⟩, fun b hb => ?_⟩
    · rw [← hsz]; exact he2
    · obtain rfl : b = it := by simpa using hb
      rw [upd_ne (Nat.ne_of_lt lti)]
      exact (hf b (by simp)).1
  done := by
    intro X p1 p2 p3 hc i pins s σ H E I hf st hg
    subst p1 p2 p3
    obtain ⟨hd, hi⟩ := hg
    obtain ⟨f0, f1, f2, f3, f4, f5⟩ := hf it (by simp)
    obtain ⟨ns, hgd, hx, es', ep', hdt, hsz, ent⟩ := frzT2 I hd
    obtain ⟨rfl, rfl⟩ := dict_ep hod hdt
    obtain ⟨ky, vl, he⟩ := st
    rw [← hsz] at he
    exact DT.endI (I.ok.hd hc) he ⟨o, hgd, hx, hdt⟩ (by omega) fun h1 eb => ⟨rfl, I.turned (t' := s.toks) (fun b ob hb e => eb b ob hb e) f0 f1 f3 f4 f5⟩
  self := fun A i s Q E st h => by
    obtain ⟨_, _, e⟩ := st
    exact PySem.W.kcp_self e h
end
def iItemsT (td : TE) : TI := fun σ H R => td σ H fun x H1 => ∃ d o kvs, x = .ref d ∧ H1 d = some (.frz o (.dT kvs)) ∧ R (Itit d o kvs) H1
theorem pi_itemsT {X : Cx} {e : Expr} {td : TE} {apos cpos : Pos} {elts : List Expr} {kk : Nat} {tpos : Pos} (he : PE X e td) (hbase : attributeBase e "items" X.env (eval e X.env) = eval e X.env := by rfl) (hline : (apos.endLine == cpos.line) = true := by rfl) :
    PI X (.Tuple elts kk tpos) (.Call (.Attribute e "items" apos) [] [] cpos) (iItemsT td) := by
  refine ⟨fun pins s σ H R I h => ?_⟩
  refine wpAny_Call_method (T := "dict") (id := "dict.items") hbase rfl hline F.plainAttrs_dict F.slot_dict_items F.type_dict_items (thn (he.run pins s σ H _ I h) fun u t ⟨x, H1, J, rx, d, o, kvs, ex, hd, q⟩ => ?_)
  subst ex
  obtain rfl : u = Value.ref d := rx
  obtain ⟨ns, hgd, hx, es, ep, hdt, hsz, ent⟩ := frzT2 J hd
  have raw : DT.Raw t.heap d es ep := ⟨o, hgd, hx, hdt⟩
  refine ⟨raw.typeIs, (fun b e => by cases e; exact ⟨o, hgd, hx.2.1⟩), ?_⟩
  have J2 : Inv X pins σ H1 { t with heap := t.heap.push { cls := .type "dict_items", data := .fields #[.ref d] } } := J.kept (t' := t.toks) fun b ob q => Heap.get?_push_of_some _ q
  have fin : wpAny (model X.prog X.w) X.A (pyIter (.ref t.heap.objs.size)) (PIE X pins σ (.Tuple elts kk tpos) R) X.xe { t with heap := t.heap.push { cls := .type "dict_items", data := .fields #[.ref d] } } := by
    refine DT.iterI (d := d) (es := es) (ep := ep) ⟨_, Heap.get?_push_size _ rfl, rfl, rfl⟩ (raw.push _) (pi_one (tk := t.toks) J2 _ (turn_itemsT _ hdt) ⟨.none, .none, ?_⟩ q)
    rw [← hsz]
    exact Heap.get?_push_size _ rfl
  show wpAny _ _ (callWith cpos (.builtin "dict.items") [.ref d] [] []) _ X.xe t
  exact method_meetsIn F.slot_dict_items F.entry_dict_items rfl (PySem.evalArgs_none ⟨rfl, raw.typeIs, F.args_dict_items_1 _, _, DT.meetsItems (es := es) (ep := ep) ns, ⟨raw, fin⟩⟩)
theorem walk_itemsT {d : Addr} {o : Obj} {kvs : List (List Key × V)} : Walk (Itit d o kvs) kvs.length (fun H => H d = some (.frz o (.dT kvs)))
    (fun i H x H' => ∃ (T : Addr) (k : List Key) (v : V) (q : Addr), kvs[i]? = some (k, v) ∧ x = .ref T ∧ H T = none ∧ H q = some (.tup (k.map kV)) ∧ H' = upd H T (.tup [.ref q, v])) :=
  ⟨fun _ _ hi q => ⟨q, hi⟩, fun _ q => ⟨q, Nat.le_refl _⟩, fun _ _ _ _ _ _ y => y⟩
end NW
namespace NW
open PySem PySem.Spec PyProof.Rows L2
open TL (tl)
open StX (pa_star)
/-! ### rows of one content in another order -/
abbrev CF := Str × Shp
def cfs (fds : List Fld) : List CF := fds.map fun f => (f.1, f.2.2)
theorem cfs_names (fds : List Fld) : (cfs fds).map (·.1) = fds.map (·.1) := by unfold cfs; rw [List.map_map]; rfl
theorem cfs_perm {a b : List Fld} (h : (cfs b).Perm (cfs a)) : (b.map (·.1)).Perm (a.map (·.1)) := by rw [← cfs_names, ← cfs_names]; exact h.map _
def TcK (ks ks' : List KRow) : Prop := (ks'.map (·.nm)).Perm (ks.map (·.nm)) ∧ ∀ l ∈ ks', ∃ k ∈ ks, l.nm = k.nm ∧ l.fcs.Perm k.fcs ∧ (cfs l.fds).Perm (cfs k.fds)
def TcF (ks ks' : List FRow) : Prop := (ks'.map (·.nm)).Perm (ks.map (·.nm)) ∧ ∀ l ∈ ks', ∃ k ∈ ks, l.nm = k.nm ∧ (cfs l.fds).Perm (cfs k.fds)
theorem FdsE.ofC {a b : List Fld} (nd : (a.map (·.1)).Nodup) (h : (cfs b).Perm (cfs a)) : FdsE a b := ⟨(cfs_perm h).symm, fun f mf g mg e => by
  obtain ⟨f0, m0, e0⟩ := List.mem_map.mp (h.mem_iff.mp (List.mem_map.mpr ⟨g, mg, rfl⟩))
  injection e0 with e1 e2
  have : f = f0 := map_uniq nd mf m0 (e.trans e1.symm)
  subst this
  exact e2⟩
theorem FdsOk.permC {bs bs' : List Str} {a b : List Fld} {n : Nat} (ok : FdsOk bs a n) (p : (cfs b).Perm (cfs a)) (h : ∀ z, z ∈ bs ↔ z ∈ bs') : FdsOk bs' b n := by
  have hl : b.length = a.length := by
    have := p.length_eq
    unfold cfs at this
    rw [List.length_map, List.length_map] at this
    exact this
  have back : ∀ f ∈ b, ∃ g ∈ a, f.1 = g.1 ∧ f.2.2 = g.2.2 := fun f m => by
    obtain ⟨g, mg, e⟩ := List.mem_map.mp (p.mem_iff.mp (List.mem_map.mpr ⟨f, m, rfl⟩))
    injection e with e1 e2
    exact ⟨g, mg, e1.symm, e2.symm⟩
  refine ⟨by rw [hl]; exact ok.n0, by rw [hl]; exact ok.n1, (cfs_perm p).nodup_iff.mpr ok.nd, fun f m => ?_, fun f m => ?_, fun z m => ok.tx z ((h z).mpr m)⟩
  · obtain ⟨g, mg, e, _⟩ := back f m
    rw [e]
    exact ok.nm g mg
  · obtain ⟨g, mg, _, e⟩ := back f m
    rw [e]
    exact okS_mem (fun z => (h z).mp) (ok.sh g mg)
section
variable {ks ks' : List KRow} {fs fs' : List FRow} {us us' : List URow} {root z : Str}
theorem TcK.e (h : TcK ks ks') (nd : (ks.map (·.nm)).Nodup) (nf : ∀ k ∈ ks, (k.fds.map (·.1)).Nodup) : KsE ks ks' := ⟨h.1.symm, fun k mk l ml e => by
  obtain ⟨k0, m0, e0, p1, p2⟩ := h.2 l ml
  have : k = k0 := map_uniq nd mk m0 (e.trans e0)
  subst this
  exact ⟨p1.symm, .ofC (nf k mk) p2⟩⟩
theorem TcF.e (h : TcF fs fs') (nd : (fs.map (·.nm)).Nodup) (nf : ∀ k ∈ fs, (k.fds.map (·.1)).Nodup) : FsE fs fs' := ⟨h.1.symm, fun k mk l ml e => by
  obtain ⟨k0, m0, e0, p2⟩ := h.2 l ml
  have : k = k0 := map_uniq nd mk m0 (e.trans e0)
  subst this
  exact .ofC (nf k mk) p2⟩
theorem SchOk.turnC (ok : SchOk ks fs us root) (hk : TcK ks ks') (hf : TcF fs fs') (hu : TuU us us') : SchOk ks' fs' us' root := by
  have lk : ks'.length = ks.length := by have := hk.1.length_eq; rw [List.length_map, List.length_map] at this; exact this
  have lf : fs'.length = fs.length := by have := hf.1.length_eq; rw [List.length_map, List.length_map] at this; exact this
  have lu : us'.length = us.length := by have := hu.1.length_eq; rw [List.length_map, List.length_map] at this; exact this
  have pb : (bsOf ks' fs' us').Perm (bsOf ks fs us) := by
    unfold bsOf
    exact List.Perm.append_left _ (hk.1.append (hf.1.append hu.1))
  have hb : ∀ z, z ∈ bsOf ks fs us ↔ z ∈ bsOf ks' fs' us' := fun z => pb.mem_iff.symm
  refine ⟨by rw [lk]; exact ok.k0, by rw [lk]; exact ok.k1, by rw [lf]; exact ok.f1, by rw [lu]; exact ok.u1, pb.nodup_iff.mpr ok.nd, fun k m => ?_, fun k m => ?_, fun k m => ?_, fun k m => ?_, fun k m => ?_, fun k m => ?_, fun k m => ?_, fun f mf k mk hc x mx => ?_, fun k m => ?_, hk.1.mem_iff.mpr ok.rt⟩
  · obtain ⟨k0, m0, e0, _⟩ := hk.2 k m
    rw [e0]; exact ok.nk k0 m0
  · obtain ⟨k0, m0, e0, _⟩ := hf.2 k m
    rw [e0]; exact ok.nf k0 m0
  · obtain ⟨k0, m0, e0, _⟩ := hu.2 k m
    rw [e0]; exact ok.nu k0 m0
  · obtain ⟨k0, m0, e0, p1, p2⟩ := hk.2 k m
    obtain ⟨a1, a2, a3⟩ := ok.kf k0 m0
    exact ⟨p1.nodup_iff.mpr a1, fun z mz => hf.1.mem_iff.mpr (a2 z (p1.mem_iff.mp mz)), by rw [p1.length_eq]; exact a3⟩
  · obtain ⟨k0, m0, e0, p1, p2⟩ := hk.2 k m
    exact (ok.kd k0 m0).permC p2 hb
  · obtain ⟨k0, m0, e0, p2⟩ := hf.2 k m
    exact (ok.fd k0 m0).permC p2 hb
  · obtain ⟨k0, m0, e0, p2⟩ := hf.2 k m
    obtain ⟨a, ma, ha⟩ := ok.fk k0 m0
    obtain ⟨b, mb, eb⟩ := List.mem_map.mp (hk.1.mem_iff.mpr (List.mem_map.mpr ⟨a, ma, rfl⟩))
    obtain ⟨a', ma', ea', p1', _⟩ := hk.2 b mb
    have : a = a' := map_uniq ok.ndk ma ma' (eb.symm.trans ea')
    subst this
    exact ⟨b, mb, p1'.mem_iff.mpr (by rw [e0]; exact ha)⟩
  · obtain ⟨f0, mf0, ef0, pf⟩ := hf.2 f mf
    obtain ⟨k0, mk0, ek0, p1, p2⟩ := hk.2 k mk
    obtain ⟨x0, mx0, ex0⟩ := List.mem_map.mp (pf.mem_iff.mp (List.mem_map.mpr ⟨x, mx, rfl⟩))
    obtain ⟨y, my, h1, h2⟩ := ok.ff f0 mf0 k0 mk0 (by rw [← ef0]; exact p1.mem_iff.mp hc) x0 mx0
    obtain ⟨z, mz, ez⟩ := List.mem_map.mp (p2.mem_iff.mpr (List.mem_map.mpr ⟨y, my, rfl⟩))
    injection ex0 with a1 a2
    injection ez with b1 b2
    exact ⟨z, mz, b1.trans (h1.trans a1), b2.trans (h2.trans a2)⟩
  · obtain ⟨k0, m0, e0, p2⟩ := hu.2 k m
    obtain ⟨a1, a2, a3, a4⟩ := ok.ud k0 m0
    exact ⟨p2.nodup_iff.mpr a1, by rw [p2.length_eq]; exact a2, by rw [p2.length_eq]; exact a3, fun z mz => hk.1.mem_iff.mpr (a4 z (p2.mem_iff.mp mz))⟩
end
/-! ### a schema shows its rows in any order -/
def BuiltC (C : Addr) (H : Hp) (x : Addr) (ks : List KRow) (fs : List FRow) (us : List URow) (root : Str) : Prop := ∃ ks' fs' us', TcK ks ks' ∧ TcF fs fs' ∧ TuU us us' ∧ BuiltAt C H x ks' fs' us' root
theorem BuiltC.same {C : Addr} {H H' : Hp} {x : Addr} {ks : List KRow} {fs : List FRow} {us : List URow} {root : Str} (h : BuiltC C H x ks fs us root) (s : Same H H') : BuiltC C H' x ks fs us root := by
  obtain ⟨a, b, c, h1, h2, h3, h4⟩ := h
  exact ⟨a, b, c, h1, h2, h3, h4.same s⟩
theorem TcK.refl {ks : List KRow} : TcK ks ks := ⟨.refl _, fun l m => ⟨l, m, rfl, .refl _, .refl _⟩⟩
theorem TcF.refl {ks : List FRow} : TcF ks ks := ⟨.refl _, fun l m => ⟨l, m, rfl, .refl _⟩⟩
theorem BuiltAt.c {C : Addr} {H : Hp} {x : Addr} {ks : List KRow} {fs : List FRow} {us : List URow} {root : Str} (h : BuiltAt C H x ks fs us root) : BuiltC C H x ks fs us root := ⟨_, _, _, .refl, .refl, .refl, h⟩
def sp_kindsC (C : Addr) : Sp := fun vs H Q _ => ∃ (x : Addr) (ks : List KRow) (fs : List FRow) (us : List URow) (root : Str), vs = [.ref x] ∧ BuiltC C H x ks fs us root ∧ ks.length ≤ 6 ∧ fs.length ≤ 3 ∧ us.length ≤ 3 ∧
  ∀ (ys : List Str) (p : Addr) H', ys.Perm (ks.map (·.nm)) → sortedS ys = true → Same H H' → H p = none → H' p = some (.lst (ys.map V.str)) → Q (.ref p) H'
def sp_facesC (C : Addr) : Sp := fun vs H Q _ => ∃ (x : Addr) (ks : List KRow) (fs : List FRow) (us : List URow) (root : Str), vs = [.ref x] ∧ BuiltC C H x ks fs us root ∧ ks.length ≤ 6 ∧ fs.length ≤ 3 ∧ us.length ≤ 3 ∧
  ∀ (ys : List Str) (p : Addr) H', ys.Perm (fs.map (·.nm)) → sortedS ys = true → Same H H' → H p = none → H' p = some (.lst (ys.map V.str)) → Q (.ref p) H'
def sp_unionsC (C : Addr) : Sp := fun vs H Q _ => ∃ (x : Addr) (ks : List KRow) (fs : List FRow) (us : List URow) (root : Str), vs = [.ref x] ∧ BuiltC C H x ks fs us root ∧ ks.length ≤ 6 ∧ fs.length ≤ 3 ∧ us.length ≤ 3 ∧
  ∀ (ys : List Str) (p : Addr) H', ys.Perm (us.map (·.nm)) → sortedS ys = true → Same H H' → H p = none → H' p = some (.lst (ys.map V.str)) → Q (.ref p) H'
def spMembersC (K : PySem.W.Frag) (C CN : Addr) : Sp := fun vs H Q E => ∃ (x : Addr) (y : V) (ks : List KRow) (fs : List FRow) (us : List URow) (root : Str), vs = [.ref x, y] ∧ BuiltC C H x ks fs us root ∧ SchOk ks fs us root ∧
  ((∃ z, y = .str z ∧ z ∈ bsOf ks fs us ∧ ∀ (l : List Str) p H', MemL ks us z l → Same H H' → H p = none → H' p = some (.lst (l.map V.str)) → Q (.ref p) H') ∨
    (((∃ z, y = .str z ∧ z ∉ bsOf ks fs us) ∨ ∃ t, TyX K H y t ∧ PySem.W.kitOne K t (.type "str") = some false) ∧ ∀ d H', Same H H' → H d = none → H' d = some (.xd [("base", y)]) → E (.ref CN) (some d) H'))
def spFieldsC (K : PySem.W.Frag) (C CN : Addr) : Sp := fun vs H Q E => ∃ (x : Addr) (y : V) (ks : List KRow) (fs : List FRow) (us : List URow) (root : Str), vs = [.ref x, y] ∧ BuiltC C H x ks fs us root ∧ SchOk ks fs us root ∧
  ((∃ z, y = .str z ∧ z ∈ bsOf ks fs us ∧ ∀ (fds : List Fld) (l : List Str) p H', FdsOf ks fs z fds → l.Perm (fds.map (·.1)) → sortedS l = true → Same H H' → H p = none → H' p = some (.lst (l.map V.str)) → Q (.ref p) H') ∨
    (((∃ z, y = .str z ∧ z ∉ bsOf ks fs us) ∨ ∃ t, TyX K H y t ∧ PySem.W.kitOne K t (.type "str") = some false) ∧ ∀ d H', Same H H' → H d = none → H' d = some (.xd [("base", y)]) → E (.ref CN) (some d) H'))
def spShapeOfC (K : PySem.W.Frag) (C CN CF : Addr) : Sp := fun vs H Q E => ∃ (x : Addr) (y u : V) (ks : List KRow) (fs : List FRow) (us : List URow) (root : Str), vs = [.ref x, y, u] ∧ BuiltC C H x ks fs us root ∧ SchOk ks fs us root ∧
  ((∃ z, y = .str z ∧ z ∈ bsOf ks fs us ∧ ∀ (fds : List Fld), FdsOf ks fs z fds →
      ((∃ g, u = .str g ∧ ((∃ fl ∈ fds, fl.1 = g ∧ ∀ v H', Same H H' → ShAt H' v fl.2.2 → Q v H') ∨ (g ∉ fds.map (·.1) ∧ ∀ d H', Same H H' → H d = none → H' d = some (.xd [("field", u), ("base", y)]) → E (.ref CF) (some d) H'))) ∨
        ((∃ t, (∀ H', Same H H' → TyX K H' u t) ∧ PySem.W.kitOne K t (.type "str") = some false) ∧ ∀ d H', Same H H' → H d = none → H' d = some (.xd [("field", u), ("base", y)]) → E (.ref CF) (some d) H'))) ∨
    (((∃ z, y = .str z ∧ z ∉ bsOf ks fs us) ∨ ∃ t, TyX K H y t ∧ PySem.W.kitOne K t (.type "str") = some false) ∧ ∀ d H', Same H H' → H d = none → H' d = some (.xd [("base", y)]) → E (.ref CN) (some d) H'))
section
variable {ks ks' : List KRow} {fs fs' : List FRow} {us us' : List URow} {root z : Str}
theorem tc_bs (hk : TcK ks ks') (hf : TcF fs fs') (hu : TuU us us') : (bsOf ks' fs' us').Perm (bsOf ks fs us) := by
  unfold bsOf
  exact List.Perm.append_left _ (hk.1.append (hf.1.append hu.1))
theorem FdsOf.tc {fds' : List Fld} (hk : TcK ks ks') (hf : TcF fs fs') (h : FdsOf ks' fs' z fds') : ∃ fds, FdsOf ks fs z fds ∧ (cfs fds').Perm (cfs fds) := by
  have nk : z ∉ ks'.map (·.nm) → z ∉ ks.map (·.nm) := fun h x => h (hk.1.mem_iff.mpr x)
  have nf : z ∉ fs'.map (·.nm) → z ∉ fs.map (·.nm) := fun h x => h (hf.1.mem_iff.mpr x)
  rcases h with ⟨k, mk, ek, rfl⟩ | ⟨n, f, mf, ef, rfl⟩ | ⟨n1, n2, rfl⟩
  · obtain ⟨k0, m0, e0, _, p⟩ := hk.2 k mk
    exact ⟨k0.fds, .inl ⟨k0, m0, e0.symm.trans ek, rfl⟩, p⟩
  · obtain ⟨k0, m0, e0, p⟩ := hf.2 f mf
    exact ⟨k0.fds, .inr (.inl ⟨nk n, k0, m0, e0.symm.trans ef, rfl⟩), p⟩
  · exact ⟨[], .inr (.inr ⟨nk n1, nf n2, rfl⟩), .refl _⟩
theorem MemL.tc {l : List Str} (nd : (ks.map (·.nm)).Nodup) (hk : TcK ks ks') (hu : TuU us us') (h : MemL ks' us' z l) : MemL ks us z l := by
  obtain ⟨a1, a2, a⟩ := h
  have nk : z ∉ ks'.map (·.nm) → z ∉ ks.map (·.nm) := fun h x => h (hk.1.mem_iff.mpr x)
  have nu : z ∉ us'.map (·.nm) → z ∉ us.map (·.nm) := fun h x => h (hu.1.mem_iff.mpr x)
  refine ⟨a1, a2, ?_⟩
  rcases a with ⟨x1, rfl⟩ | ⟨x1, u, mu, eu, p⟩ | ⟨x1, x2, p⟩
  · exact .inl ⟨hk.1.mem_iff.mp x1, rfl⟩
  · obtain ⟨u0, m0, e0, p0⟩ := hu.2 u mu
    exact .inr (.inl ⟨nk x1, u0, m0, e0.symm.trans eu, p.trans p0⟩)
  · refine .inr (.inr ⟨nk x1, nu x2, p.trans ?_⟩)
    have nd' : (ks'.map (·.nm)).Nodup := hk.1.nodup_iff.mpr nd
    refine (List.perm_ext_iff_of_nodup (nd'.sublist (List.Sublist.map _ List.filter_sublist)) (nd.sublist (List.Sublist.map _ List.filter_sublist))).mpr fun y => ?_
    constructor
    · intro m
      obtain ⟨k, mk, rfl⟩ := List.mem_map.mp m
      obtain ⟨m1, m2⟩ := List.mem_filter.mp mk
      obtain ⟨k0, m0, e0, p1, _⟩ := hk.2 k m1
      exact List.mem_map.mpr ⟨k0, List.mem_filter.mpr ⟨m0, decide_eq_true (p1.mem_iff.mp (of_decide_eq_true m2))⟩, e0.symm⟩
    · intro m
      obtain ⟨k, mk, rfl⟩ := List.mem_map.mp m
      obtain ⟨m1, m2⟩ := List.mem_filter.mp mk
      obtain ⟨l0, ml0, el0⟩ := List.mem_map.mp (hk.1.mem_iff.mpr (List.mem_map.mpr ⟨k, m1, rfl⟩))
      obtain ⟨k0, m0, e0, p1, _⟩ := hk.2 l0 ml0
      have : k = k0 := map_uniq nd m1 m0 (el0.symm.trans e0)
      subst this
      exact List.mem_map.mpr ⟨l0, List.mem_filter.mpr ⟨ml0, decide_eq_true (p1.mem_iff.mpr (of_decide_eq_true m2))⟩, el0⟩
end
theorem tlenC {α β : Type} {f : α → β} {a b : List α} (h : (b.map f).Perm (a.map f)) : b.length = a.length := by
  have := h.length_eq
  rw [List.length_map, List.length_map] at this
  exact this
section
variable {P : Program} {w : World} {K : PySem.W.Frag} {mg : Str → Option Value} {base : Heap} {CX : CXT} {j : Nat} {f C CN CF : Addr} {fd : FuncData} {ps : List Str}
theorem kindsC (G : FnOk P w K mg base CX j f fd ps (sp_kinds C)) : FnOk P w K mg base CX j f fd ps (sp_kindsC C) := G.imp fun vs H Q E h => by
  obtain ⟨x, ks, fs, us, root, rfl, ⟨ks', fs', us', hk, hf, hu, Bt⟩, l1, l2, l3, q⟩ := h
  exact ⟨x, ks', fs', us', root, rfl, Bt, by rw [tlenC hk.1]; exact l1, by rw [tlenC hf.1]; exact l2, by rw [tlenC hu.1]; exact l3, fun ys p H' py => q ys p H' (py.trans hk.1)⟩
theorem facesC (G : FnOk P w K mg base CX j f fd ps (sp_faces C)) : FnOk P w K mg base CX j f fd ps (sp_facesC C) := G.imp fun vs H Q E h => by
  obtain ⟨x, ks, fs, us, root, rfl, ⟨ks', fs', us', hk, hf, hu, Bt⟩, l1, l2, l3, q⟩ := h
  exact ⟨x, ks', fs', us', root, rfl, Bt, by rw [tlenC hk.1]; exact l1, by rw [tlenC hf.1]; exact l2, by rw [tlenC hu.1]; exact l3, fun ys p H' py => q ys p H' (py.trans hf.1)⟩
theorem unionsC (G : FnOk P w K mg base CX j f fd ps (sp_unions C)) : FnOk P w K mg base CX j f fd ps (sp_unionsC C) := G.imp fun vs H Q E h => by
  obtain ⟨x, ks, fs, us, root, rfl, ⟨ks', fs', us', hk, hf, hu, Bt⟩, l1, l2, l3, q⟩ := h
  exact ⟨x, ks', fs', us', root, rfl, Bt, by rw [tlenC hk.1]; exact l1, by rw [tlenC hf.1]; exact l2, by rw [tlenC hu.1]; exact l3, fun ys p H' py => q ys p H' (py.trans hu.1)⟩
theorem membersC (G : FnOk P w K mg base CX j f fd ps (spMembers K C CN)) : FnOk P w K mg base CX j f fd ps (spMembersC K C CN) := G.imp fun vs H Q E h => by
  obtain ⟨x, y, ks, fs, us, root, rfl, ⟨ks', fs', us', hk, hf, hu, Bt⟩, ok, q⟩ := h
  have hb := tc_bs hk hf hu
  refine ⟨x, y, ks', fs', us', root, rfl, Bt, ok.turnC hk hf hu, ?_⟩
  rcases q with ⟨z, rfl, hz, q⟩ | ⟨⟨z, rfl, hz⟩ | ht, q⟩
  · exact .inl ⟨z, rfl, hb.mem_iff.mpr hz, fun l p H' m => q l p H' (m.tc ok.ndk hk hu)⟩
  · exact .inr ⟨.inl ⟨z, rfl, fun m => hz (hb.mem_iff.mp m)⟩, q⟩
  · exact .inr ⟨.inr ht, q⟩
theorem fieldsC (G : FnOk P w K mg base CX j f fd ps (spFields K C CN)) : FnOk P w K mg base CX j f fd ps (spFieldsC K C CN) := G.imp fun vs H Q E h => by
  obtain ⟨x, y, ks, fs, us, root, rfl, ⟨ks', fs', us', hk, hf, hu, Bt⟩, ok, q⟩ := h
  have hb := tc_bs hk hf hu
  refine ⟨x, y, ks', fs', us', root, rfl, Bt, ok.turnC hk hf hu, ?_⟩
  rcases q with ⟨z, rfl, hz, q⟩ | ⟨⟨z, rfl, hz⟩ | ht, q⟩
  · refine .inl ⟨z, rfl, hb.mem_iff.mpr hz, fun fds' l p H' m pl => ?_⟩
    obtain ⟨fds, h1, h2⟩ := m.tc hk hf
    exact q fds l p H' h1 (pl.trans (cfs_perm h2))
  · exact .inr ⟨.inl ⟨z, rfl, fun m => hz (hb.mem_iff.mp m)⟩, q⟩
  · exact .inr ⟨.inr ht, q⟩
theorem shape_ofC (G : FnOk P w K mg base CX j f fd ps (spShapeOf K C CN CF)) : FnOk P w K mg base CX j f fd ps (spShapeOfC K C CN CF) := G.imp fun vs H Q E h => by
  obtain ⟨x, y, u, ks, fs, us, root, rfl, ⟨ks', fs', us', hk, hf, hu, Bt⟩, ok, q⟩ := h
  have hb := tc_bs hk hf hu
  refine ⟨x, y, u, ks', fs', us', root, rfl, Bt, ok.turnC hk hf hu, ?_⟩
  rcases q with ⟨z, rfl, hz, q⟩ | ⟨⟨z, rfl, hz⟩ | ht, q⟩
  · refine .inl ⟨z, rfl, hb.mem_iff.mpr hz, fun fds' m => ?_⟩
    obtain ⟨fds, h1, h2⟩ := m.tc hk hf
    rcases q fds h1 with ⟨g, rfl, ⟨fl, mfl, e, r⟩ | ⟨n, r⟩⟩ | r
    · obtain ⟨f0, m0, e0⟩ := List.mem_map.mp (h2.mem_iff.mpr (List.mem_map.mpr ⟨fl, mfl, rfl⟩))
      injection e0 with e1 e2
      exact .inl ⟨g, rfl, .inl ⟨f0, m0, e1.trans e, fun H' s h => r f0.2.1 H' s (e2 ▸ h)⟩⟩
    · exact .inl ⟨g, rfl, .inr ⟨fun z => n ((cfs_perm h2).mem_iff.mp z), r⟩⟩
    · exact .inr r
  · exact .inr ⟨.inl ⟨z, rfl, fun m => hz (hb.mem_iff.mp m)⟩, q⟩
  · exact .inr ⟨.inr ht, q⟩
end
theorem ShAt.both {H : Hp} : ∀ {s : Shp} {u v : V}, ShAt H u s → ShAt H v s → SameV s.dep H u v
  | .base z, u, v, h, k => by
    cases (show u = .str z from h)
    cases (show v = .str z from k)
    exact SameV.strV
  | .sure s, u, v, h, k => by
    obtain ⟨a, x, rfl, ea, hx⟩ := h
    obtain ⟨b, y, rfl, eb, hy⟩ := k
    exact .inr (.inl ⟨a, b, _, _, rfl, rfl, .inr ⟨ea, eb⟩, rfl, by show 2 ≤ 1000; decide, fun i p q ep eq => by
      match i, ep, eq with
      | 0, ep, eq => cases ep; cases eq; exact SameV.strV
      | 1, ep, eq => cases ep; cases eq; exact hx.both hy
      | n + 2, ep, _ => cases ep⟩)
  | .list s, u, v, h, k => by
    obtain ⟨a, x, rfl, ea, hx⟩ := h
    obtain ⟨b, y, rfl, eb, hy⟩ := k
    exact .inr (.inl ⟨a, b, _, _, rfl, rfl, .inr ⟨ea, eb⟩, rfl, by show 2 ≤ 1000; decide, fun i p q ep eq => by
      match i, ep, eq with
      | 0, ep, eq => cases ep; cases eq; exact SameV.strV
      | 1, ep, eq => cases ep; cases eq; exact hx.both hy
      | n + 2, ep, _ => cases ep⟩)
section
variable {P : Program} {w : World} {K : PySem.W.Frag} {mg : Str → Option Value} {base : Heap}
def spLshowsC (C : Addr) : Sp := fun vs H Q _ => ∃ (x q kt ft ut : Addr) (ks : List KRow) (fs : List FRow) (us : List URow) (root : Str), vs = [.ref x, .ref q] ∧ BuiltC C H x ks fs us root ∧ SchT H q kt ft ut ks fs us root ∧ ∀ H', Same H H' → Q (.bl true) H'
theorem ok_LshowsC {f f1 f2 f3 f4 f5 f6 f7 f8 f9 f10 C CN CF : Addr} {fd fd1 fd2 fd3 fd4 fd5 fd6 fd7 fd8 fd9 fd10 : FuncData} (D : Df K mg "_law_shows" s_Lshows f fd ["_law_built", "_law_schema_here"])
    (D_Lsame : Df K mg "_law_same" s_Lsame f1 fd1 ["_law_one", "_law_other"]) (G_Lsame : FnOk P w K mg base CX0 5 f1 fd1 ["_law_one", "_law_other"] (spLsame 4))
    (M_kinds : Mt K C "kinds" "Schema.kinds" s_Schema_kinds f2 fd2 ["self"]) (G_kinds : FnOk P w K mg base CX0 1 f2 fd2 ["self"] (sp_kindsC C))
    (M_faces : Mt K C "faces" "Schema.faces" s_Schema_faces f3 fd3 ["self"]) (G_faces : FnOk P w K mg base CX0 1 f3 fd3 ["self"] (sp_facesC C))
    (M_unions : Mt K C "unions" "Schema.unions" s_Schema_unions f4 fd4 ["self"]) (G_unions : FnOk P w K mg base CX0 1 f4 fd4 ["self"] (sp_unionsC C))
    (D_Lbases : Df K mg "_law_bases" s_Lbases f5 fd5 ["_law_schema_here"]) (G_Lbases : FnOk P w K mg base CX0 1 f5 fd5 ["_law_schema_here"] spLbases)
    (M_members : Mt K C "members" "Schema.members" s_Schema_members f6 fd6 ["self", "base"]) (G_members : FnOk P w K mg base (L2N.CX P w) 4 f6 fd6 ["self", "base"] (spMembersC K C CN))
    (D_Lmembers : Df K mg "_law_members" s_Lmembers f7 fd7 ["_law_schema_here", "_law_base"]) (G_Lmembers : FnOk P w K mg base CX0 1 f7 fd7 ["_law_schema_here", "_law_base"] spLmembers)
    (D_Ltable : Df K mg "_law_table" s_Ltable f8 fd8 ["_law_schema_here", "_law_base"]) (G_Ltable : FnOk P w K mg base CX0 1 f8 fd8 ["_law_schema_here", "_law_base"] spLtable)
    (M_fields : Mt K C "fields" "Schema.fields" s_Schema_fields f9 fd9 ["self", "base"]) (G_fields : FnOk P w K mg base (L2N.CX P w) 5 f9 fd9 ["self", "base"] (spFieldsC K C CN))
    (M_shape_of : Mt K C "shape_of" "Schema.shape_of" s_Schema_shape_of f10 fd10 ["self", "base", "field"]) (G_shape_of : FnOk P w K mg base (L2N.CX P w) 5 f10 fd10 ["self", "base", "field"] (spShapeOfC K C CN CF))
    (T : Nms mg) (L : ClT K C) : FnOk P w K mg base CX0 6 f fd ["_law_built", "_law_schema_here"] (spLshowsC C) := by
  refine D.F.ok sc_Lshows (fun vs H Q E h => ?_) (fun cdv A outer s H vs Q E hr h => ?_)
  · obtain ⟨x, q, kt, ft, ut, ks, fs, us, root, rfl, _⟩ := h
    rfl
  · obtain ⟨x, q0, kt, ft, ut, ks, fs, us, root, rfl, Bt, ⟨hq, S, ok⟩, qq⟩ := h
    have hu := hu_of hr
    refine ⟨_, (pss_cons (ps_if (pt_not (pt_val (pe_call G_Lsame (hr.mono (by decide)) (by rfl) D_Lsame.g D_Lsame.F.kp D_Lsame.b .nil pass0 (pa_cons (pe_lst (pa_cons (pe_meth0 (pv 0) L.cl M_kinds.m G_kinds (hr.mono (by decide)) M_kinds.b .nil pass0) (pa_cons (pe_meth0 (pv 0) L.cl M_faces.m G_faces (hr.mono (by decide)) M_faces.b .nil pass0) pa_nil))) (pa_cons (pe_lst (pa_cons (pe_callB (call_sortedD rfl) (by rfl) T.n_sorted (by decide +kernel) (pa_cons (pe_ix ix_tup (pv 1) pe_int (fun _ _ => rfl)) pa_nil)) (pa_cons (pe_callB (call_sortedD rfl) (by rfl) T.n_sorted (by decide +kernel) (pa_cons (pe_ix ix_tup (pv 1) pe_int (fun _ _ => rfl)) pa_nil)) pa_nil))) pa_nil)))))
       (pss_one (ps_ret pe_bl))
       pss_nil)
      (pss_cons (ps_if (PW.pt (pw_or (pt_not (pt_val (pe_call G_Lsame (hr.mono (by decide)) (by rfl) D_Lsame.g D_Lsame.F.kp D_Lsame.b .nil pass0 (pa_cons (pe_meth0 (pv 0) L.cl M_unions.m G_unions (hr.mono (by decide)) M_unions.b .nil pass0) (pa_cons (pe_callB (call_sortedD rfl) (by rfl) T.n_sorted (by decide +kernel) (pa_cons (pe_ix ix_tup (pv 1) pe_int (fun _ _ => rfl)) pa_nil)) pa_nil))))) (pw_or1 (pt_not (pt_val (pe_call G_Lsame (hr.mono (by decide)) (by rfl) D_Lsame.g D_Lsame.F.kp D_Lsame.b .nil pass0 (pa_cons (pe_fld (pv 0) rfl) (pa_cons (pe_ix ix_tup (pv 1) pe_int (fun _ _ => rfl)) pa_nil))))))))
       (pss_one (ps_ret pe_bl))
       pss_nil)
      (pss_cons (ps_for PassesOwn.never rfl (pi_list (pe_call G_Lbases (hr.mono (by decide)) (by rfl) D_Lbases.g D_Lbases.F.kp D_Lbases.b .nil pass0 (pa_cons (pv 1) pa_nil))) (pg_name (i := 2) sc_Lshows.nd rfl (.inl rfl))
       (pss_cons (ps_if (pt_not (pt_val (pe_call G_Lsame (hr.mono (by decide)) (by rfl) D_Lsame.g D_Lsame.F.kp D_Lsame.b .nil pass0 (pa_cons (pe_meth (pv 0) L.cl M_members.m G_members (hr.mono (by decide)) M_members.b .nil passA (pa_cons (pv 2) pa_nil)) (pa_cons (pe_call G_Lmembers (hr.mono (by decide)) (by rfl) D_Lmembers.g D_Lmembers.F.kp D_Lmembers.b .nil pass0 (pa_cons (pv 1) (pa_cons (pv 2) pa_nil))) pa_nil)))))
         (pss_one (ps_ret pe_bl))
         pss_nil)
        (pss_cons (ps_set (i := 3) sc_Lshows.nd rfl (.inl rfl) (pe_call G_Ltable (hr.mono (by decide)) (by rfl) D_Ltable.g D_Ltable.F.kp D_Ltable.b .nil pass0 (pa_cons (pv 1) (pa_cons (pv 2) pa_nil))))
        (pss_cons (ps_if (pt_not (pt_val (pe_call G_Lsame (hr.mono (by decide)) (by rfl) D_Lsame.g D_Lsame.F.kp D_Lsame.b .nil pass0 (pa_cons (pe_meth (pv 0) L.cl M_fields.m G_fields (hr.mono (by decide)) M_fields.b .nil passA (pa_cons (pv 2) pa_nil)) (pa_cons (pe_callB (call_sortedD rfl) (by rfl) T.n_sorted (by decide +kernel) (pa_cons (pv 3) pa_nil)) pa_nil)))))
         (pss_one (ps_ret pe_bl))
         pss_nil)
        (pss_one (ps_for PassesOwn.never rfl (pi_list (pe_callB (call_sortedD rfl) (by rfl) T.n_sorted (by decide +kernel) (pa_cons (pv 3) pa_nil))) (pg_name (i := 4) sc_Lshows.nd rfl (.inl rfl))
         (pss_one (ps_if (pt_not (pt_val (pe_call G_Lsame (hr.mono (by decide)) (by rfl) D_Lsame.g D_Lsame.F.kp D_Lsame.b .nil pass0 (pa_cons (pe_meth (pv 0) L.cl M_shape_of.m G_shape_of (hr.mono (by decide)) M_shape_of.b .nil passA (pa_cons (pv 2) (pa_cons (pv 4) pa_nil))) (pa_cons (pe_dget hu (pv 3) (pv 4) (fun _ _ => rfl)) pa_nil)))))
           (pss_one (ps_ret pe_bl))
           pss_nil))))))))
      (pss_one (ps_ret pe_bl))))), ?_⟩
    have hS : ∀ n : Nat, n ≤ 1000 → n ≤ sizeLine := fun n h => Nat.le_trans h (by decide)
    have k1 := ok.k1
    have f1' := ok.f1
    have u1 := ok.u1
    have BtA : ∀ {H2 : Hp}, Same H H2 → BuiltC C H2 x ks fs us root := fun s => Bt.same s
    have STA : ∀ {H2 : Hp}, Same H H2 → SchT H2 q0 kt ft ut ks fs us root := fun s => ⟨s _ _ hq, S.same s, ok⟩
    have insx : ∀ H', Same H H' → ∃ dx kt' ft' ut', H' x = some (.ins C dx (pfs kt' ft' ut' root)) := fun H' s => by
      obtain ⟨_, _, _, _, _, _, dx, kt', ft', ut', _, _, _, hx, _⟩ := Bt
      exact ⟨dx, kt', ft', ut', s _ _ hx⟩
    have sz : ∀ H', Same H H' → SqT K H' q0 [.ref kt, .ref ft, .ref ut, .str root] := fun H' s => .inl (.inl (s _ _ hq))
    have s00 : Same H H := fun _ _ e => e
    obtain ⟨dx, kt', ft', ut', hx⟩ := insx H s00
    -- [built.kinds(), built.faces()]
    refine ⟨.ref x, rfl, x, dx, _, rfl, hx, lkn _ _ _ _ (by decide +kernel) (by decide +kernel) (by decide +kernel) (by decide +kernel), x, ks, fs, us, root, rfl, Bt, k1, f1', u1, fun ys1 p1 Ha pm1 so1 sa na ea => ?_⟩
    refine ⟨.ref x, rfl, x, dx, _, rfl, sa _ _ hx, lkn _ _ _ _ (by decide +kernel) (by decide +kernel) (by decide +kernel) (by decide +kernel), x, ks, fs, us, root, rfl, BtA sa, k1, f1', u1, fun ys2 p2 Hb pm2 so2 sb nb' eb => ⟨hS 2 (by decide), fun pg npg => ?_⟩⟩
    have sHb := sa.trans sb
    have sd := same_new (o := .lst [.ref p1, .ref p2]) npg
    have sHd := sHb.trans sd
    have e1 := sd _ _ (sb _ _ ea)
    have e2 := sd _ _ eb
    have eg : (upd Hb pg (.lst [.ref p1, .ref p2])) pg = some (.lst [.ref p1, .ref p2]) := upd_same
    generalize upd Hb pg (.lst [.ref p1, .ref p2]) = Hd at sd sHd e1 e2 eg
    have l1 : ys1.length ≤ 6 := by rw [pm1.length_eq, List.length_map]; omega
    have l2 : ys2.length ≤ 6 := by rw [pm2.length_eq, List.length_map]; omega
    have STd := STA sHd
    refine ⟨.ref q0, rfl, q0, _, 0, _, rfl, rfl, sz Hd sHd, atI_nat (j := 0) rfl, kt, kkv ks, _, rfl, .inl STd.2.1.kd, kkv_keys _, (by rw [List.length_map]; omega), fun zs1 r1 pz1 sz1 nr1 => ?_⟩
    have t1 := same_new (o := .lst (zs1.map V.str)) nr1
    refine ⟨.ref q0, rfl, q0, _, 1, _, rfl, rfl, sz _ (sHd.trans t1), atI_nat (j := 1) rfl, ft, fkvs fs, _, rfl, .inl (t1 _ _ STd.2.1.fd), fkvs_keys _, (by rw [List.length_map]; omega), fun zs2 r2 pz2 sz2 nr2 => ⟨hS 2 (by decide), fun pr npr => ?_⟩⟩
    have t2 := same_new (o := .lst (zs2.map V.str)) nr2
    have t3 := same_new (o := .lst [.ref r1, .ref r2]) npr
    have t13 := (t1.trans t2).trans t3
    have h1 := sorted_one so1 sz1 (pm1.trans pz1.symm)
    have h2 := sorted_one so2 sz2 (pm2.trans pz2.symm)
    subst h1 h2
    have sm : SameV 2 _ (.ref pg) (.ref pr) := .inr (.inl ⟨pg, pr, _, _, rfl, rfl, .inl ⟨t13 _ _ eg, upd_same⟩, rfl, by show 2 ≤ 1000; decide, fun i u v eu ev => by
      match i, eu, ev with
      | 0, eu, ev =>
        cases eu
        cases ev
        exact SameV.strs (t13 _ _ e1) ((t2.trans t3) _ _ upd_same) (by omega)
      | 1, eu, ev =>
        cases eu
        cases ev
        exact SameV.strs (t13 _ _ e2) (t3 _ _ upd_same) (by omega)
      | n + 2, eu, _ => cases eu⟩)
    refine ⟨_, _, rfl, SameV.le (by decide) sm, fun He se => ⟨true, rfl, iteF ?_⟩⟩
    have sHe := sHd.trans (t13.trans se)
    clear sm
    -- built.unions()
    obtain ⟨dx, kt', ft', ut', hx⟩ := insx He sHe
    refine ⟨.ref x, rfl, x, dx, _, rfl, hx, lkn _ _ _ _ (by decide +kernel) (by decide +kernel) (by decide +kernel) (by decide +kernel), x, ks, fs, us, root, rfl, BtA sHe, k1, f1', u1, fun ys3 p3 Hf pm3 so3 sf nf ef => ?_⟩
    have sHf := sHe.trans sf
    refine ⟨.ref q0, rfl, q0, _, 2, _, rfl, rfl, sz Hf sHf, atI_nat (j := 2) rfl, ut, ukv us, _, rfl, .inl (STA sHf).2.1.ud, ukv_keys _, (by rw [List.length_map]; omega), fun zs3 r3 pz3 sz3 nr3 => ?_⟩
    have h3 := sorted_one so3 sz3 (pm3.trans pz3.symm)
    subst h3
    have l3 : ys3.length ≤ 6 := by rw [pm3.length_eq, List.length_map]; omega
    have t4 := same_new (o := .lst (ys3.map V.str)) nr3
    refine ⟨_, _, rfl, SameV.le (by decide) (SameV.strs (t4 _ _ ef) upd_same (by omega)), fun Hg sg => ⟨true, rfl, iteF ?_⟩⟩
    have sHg := (sHf.trans t4).trans sg
    -- built.root
    obtain ⟨dx, kt', ft', ut', hx⟩ := insx Hg sHg
    refine ⟨.ref x, rfl, x, C, dx, _, _, rfl, hx, L.cl, L.nr, lkr .., .ref q0, rfl, q0, _, 3, _, rfl, rfl, sz Hg sHg, atI_nat (j := 3) rfl, _, _, rfl, SameV.strV, fun Hh sh => ⟨true, rfl, iteF ?_⟩⟩
    have sHh := sHg.trans sh
    -- the bases
    refine ⟨.ref q0, rfl, q0, kt, ft, ut, ks, fs, us, root, rfl, STA sHh, fun LB pb Hi pl si ni ei => ?_⟩
    have sHi := sHh.trans si
    have hLBm : ∀ z, z ∈ LB → z ∈ bsOf ks fs us := fun z m => by
      have := pl.mem_iff.mp m
      rw [List.append_assoc] at this
      exact List.mem_append_right _ this
    refine ⟨pb, rfl, ⟨_, SqL.of ei⟩, for_list (xs := LB.map V.str) (fun j σ H4 => ∃ y2 y3 y4 : Option V, σ = [some (.ref x), some (.ref q0), y2, y3, y4] ∧ Same Hi H4) ?_ ?_ ?_ ?_⟩
    · exact ⟨_, _, _, rfl, fun _ _ e => e⟩
    · rintro j σ H4 _ ⟨_, _, _, _, s4⟩
      exact SqL.of (s4 _ _ ei)
    · rintro j y σ H4 ey ⟨y2, y3, y4, rfl, s4⟩
      obtain ⟨z, hz, rfl⟩ := List.mem_map.mp (List.mem_of_getElem? ey)
      have hzb := hLBm z hz
      have sH4 := sHi.trans s4
      obtain ⟨dx, kt', ft', ut', hx⟩ := insx H4 sH4
      refine ⟨.ref x, rfl, x, dx, _, rfl, hx, lkn _ _ _ _ (by decide +kernel) (by decide +kernel) (by decide +kernel) (by decide +kernel), .str z, rfl, x, .str z, ks, fs, us, root, rfl, BtA sH4, ok, .inl ⟨z, rfl, hzb, fun m1 pm H5 ml1 s5 nm em => ?_⟩⟩
      refine ⟨.ref q0, rfl, .str z, rfl, q0, kt, ft, ut, ks, fs, us, root, z, rfl, STA (sH4.trans s5), fun m2 pm2 H6 ml2 s6 nm2 em2 => ?_⟩
      have s46 := s5.trans s6
      cases MemL.one ok.ndu ml1 ml2
      refine ⟨_, _, rfl, SameV.le (by decide) (SameV.strs (s6 _ _ em) em2 (by have := ml1.2.1; omega)), fun H7 s7 => ⟨true, rfl, iteF ?_⟩⟩
      have s47 := s46.trans s7
      have sH7 := sH4.trans s47
      -- the table
      refine ⟨.ref q0, rfl, .str z, rfl, q0, kt, ft, ut, ks, fs, us, root, z, rfl, STA sH7, fun fds d H8 hf sh8 s8 e8 => ?_⟩
      have sH8 := sH7.trans s8
      have few := hf.few ok
      have fnd := hf.nd ok
      have hsz : (fds.map (·.1)).length < 64 := by
        rw [List.length_map]
        omega
      obtain ⟨dx, kt', ft', ut', hx⟩ := insx H8 sH8
      refine ⟨.ref x, rfl, x, dx, _, rfl, hx, lkn _ _ _ _ (by decide +kernel) (by decide +kernel) (by decide +kernel) (by decide +kernel), .str z, rfl, x, .str z, ks, fs, us, root, rfl, BtA sH8, ok, .inl ⟨z, rfl, hzb, fun fds1 l1 q1 H9 hf1 pm1 so1 s9 n1 e1 => ?_⟩⟩
      cases hf.uniq ok hf1
      refine ⟨.ref d, rfl, d, fkv fds, _, rfl, .inl (s9 _ _ e8), fkv_keys fds, hsz, fun ys1 r1 pys1 sys1 nr1 => ?_⟩
      cases sorted_one so1 sys1 (pm1.trans pys1.symm)
      have t9 := same_new (o := .lst (l1.map V.str)) nr1
      have hl1 : l1.length ≤ 5 := by rw [pm1.length_eq, List.length_map]; exact few
      refine ⟨_, _, rfl, ((SameV.strs (t9 _ _ e1) upd_same (by omega)).le (by decide)), fun H10 s10 => ⟨true, rfl, iteF ?_⟩⟩
      have s810 := (s9.trans t9).trans s10
      have e10 := s810 _ _ e8
      -- each field
      refine ⟨.ref d, rfl, d, fkv fds, _, rfl, .inl e10, fkv_keys fds, hsz, fun ys2 r2 pys2 sys2 nr2 => ⟨r2, rfl, ⟨_, SqL.of upd_same⟩, ?_⟩⟩
      have t10 := same_new (o := .lst (ys2.map V.str)) nr2
      refine for_list (xs := ys2.map V.str) (fun j σ H11 => ∃ y4 : Option V, σ = [some (.ref x), some (.ref q0), some (.str z), some (.ref d), y4] ∧ Same (upd H10 r2 (.lst (ys2.map V.str))) H11) ?_ ?_ ?_ ?_
      · exact ⟨_, rfl, fun _ _ e => e⟩
      · rintro j σ H11 _ ⟨_, _, s11⟩
        exact SqL.of (s11 _ _ upd_same)
      · rintro j y σ H11 ey2 ⟨y4', rfl, s11⟩
        obtain ⟨g, hg, rfl⟩ := List.mem_map.mp (List.mem_of_getElem? ey2)
        obtain ⟨fl, fm, rfl⟩ := List.mem_map.mp (pys2.mem_iff.mp hg)
        have s811 := (s810.trans t10).trans s11
        have sH11 := sH8.trans s811
        obtain ⟨dx, kt', ft', ut', hx⟩ := insx H11 sH11
        refine ⟨.ref x, rfl, x, dx, _, rfl, hx, lkn _ _ _ _ (by decide +kernel) (by decide +kernel) (by decide +kernel) (by decide +kernel), .str z, rfl, .str fl.1, rfl, x, .str z, .str fl.1, ks, fs, us, root, rfl, BtA sH11, ok, .inl ⟨z, rfl, hzb, fun fds' hf' => ?_⟩⟩
        cases hf.uniq ok hf'
        refine .inl ⟨fl.1, rfl, .inl ⟨fl, fm, rfl, fun v12 H12 s12 sh12 => ?_⟩⟩
        have hv : valV (fkv fds) (Sum.inr fl.1) = some fl.2.1 := valV_map (f := fun f : Fld => f.1) (g := fun f => f.2.1) fnd fm
        refine ⟨.ref d, rfl, .str fl.1, rfl, d, fl.2.1, rfl, .inl ⟨fkv fds, .inr fl.1, .inl ((s811.trans s12) _ _ e8), rfl, hv.symm⟩, ?_⟩
        refine ⟨_, _, rfl, SameV.le (okS_dep (hf.ok ok fm)) (sh12.both ((sh8 fl fm).same (s811.trans s12))), fun H13 s13 => ⟨true, rfl, iteF ?_⟩⟩
        exact ⟨_, rfl, (s11.trans s12).trans s13⟩
      · rintro σ H11 ⟨y4', rfl, s11⟩
        exact ⟨_, _, _, rfl, s4.trans (s47.trans (s8.trans ((s810.trans t10).trans s11)))⟩
    · rintro σ H4 ⟨y2, y3, y4, rfl, s4⟩
      exact qq H4 (sHi.trans s4)
end
end NW
namespace NW
open PySem PySem.Spec PyProof.Rows L2
/-! ### a dict whose keys are tuples that may be written ones: its values are objects -/
abbrev XEn := List Key × Addr × Addr
def entsX (xs : List XEn) : List (List Key × Addr × Value) := xs.map fun x => (x.1, x.2.1, Value.ref x.2.2)
def dXp (P : Program) (w : World) (a : Addr) (xs : List XEn) (h : Heap) : Prop := (a == sysModules) = false ∧ xs.length ≤ 1000 ∧
  ∃ o es ep, h.get? a = some o ∧ o.ExactDict ∧ o.data = .dict es ep ∧ es.toList = (entsX xs).map (entryOfKey (tupleKind (mixKind P w))) ∧ ((entsX xs).map (·.1)).Nodup
def dX (P : Program) (w : World) (a : Addr) (xs : List XEn) : HO := .ext (dXp P w a xs)
/-- all keys stand -/
def KeysX (K : PySem.W.Frag) (H : Hp) (xs : List XEn) : Prop := ∀ x ∈ xs, SqT K H x.2.1 (x.1.map kV)
def getX (xs : List XEn) (k : List Key) : Option Addr := (xs.find? fun x => decide (x.1 = k)).map (·.2.2)
def putX (xs : List XEn) (k : List Key) (b t : Addr) : List XEn := if (getX xs k).isSome then xs.map (fun x => if x.1 = k then (x.1, x.2.1, t) else x) else xs ++ [(k, b, t)]
theorem atKey_X (xs : List XEn) (k : List Key) : (atKey (entsX xs) k).map (·.2) = (getX xs k).map Value.ref := by
  unfold atKey getX entsX
  rw [List.find?_map, Option.map_map, Option.map_map, Option.map_map]
  rfl
theorem atKey_some {xs : List XEn} {k : List Key} : (atKey (entsX xs) k).isSome = (getX xs k).isSome := by
  have := congrArg Option.isSome (atKey_X xs k)
  rw [Option.isSome_map, Option.isSome_map] at this
  exact this
theorem stored_X (xs : List XEn) (k : List Key) (b t : Addr) : storedH (entsX xs) k b (.ref t) = entsX (putX xs k b t) := by
  unfold storedH putX
  rw [atKey_some]
  split
  · unfold entsX
    rw [List.map_map, List.map_map]
    refine List.map_congr_left fun x _ => ?_
    show putAt k (.ref t) (x.1, x.2.1, Value.ref x.2.2) = _
    unfold putAt
    show (if x.1 = k then (x.1, x.2.1, Value.ref t) else (x.1, x.2.1, Value.ref x.2.2)) = (fun x : XEn => (x.1, x.2.1, Value.ref x.2.2)) (if x.1 = k then (x.1, x.2.1, t) else x)
    split <;> rfl
  · unfold entsX
    rw [List.map_append]
    rfl
theorem putX_len (xs : List XEn) (k : List Key) (b t : Addr) : (putX xs k b t).length ≤ xs.length + 1 := by
  unfold putX
  split
  · rw [List.length_map]
    omega
  · rw [List.length_append]
    exact Nat.le_refl _
section
variable {X : Cx} {pins : List (Addr × Obj)} {σ : L2.St} {H : Hp} {s : Shared} {a b : Addr} {xs : List XEn} {k : List Key}
theorem keyS (I : Inv X pins σ H s) (e : SqT X.K H b (k.map kV)) : (tupleKind (mixKind X.prog X.w)).is s.heap k b := by
  obtain ⟨its, r, ⟨o, ho, hc, n, hd⟩, hz⟩ := I.tuple e
  exact ⟨o, its.toArray, n, ho, hc, hd, by simpa using items_are r⟩
theorem dX_at (I : Inv X pins σ H s) (e : H a = some (dX X.prog X.w a xs)) (ks : KeysX X.K H xs) : (a == sysModules) = false ∧ xs.length ≤ 1000 ∧ s.heap.DictOfH (tupleKind (mixKind X.prog X.w)) a (entsX xs) := by
  obtain ⟨⟨ns, few, o, es, ep, ho, hx, hd, he, nd⟩, _⟩ := (show ObjOk X.prog X.w H s.heap a (dX X.prog X.w a xs) from I.hok a _ e)
  refine ⟨ns, few, o, es, ep, ho, hx, hd, he, fun x m => ?_, nd⟩
  obtain ⟨y, my, rfl⟩ := List.mem_map.mp m
  exact keyS I (ks y my)
theorem dX_ok {P : Program} {w : World} {H : Hp} {h : Heap} (ns : (a == sysModules) = false) (few : xs.length ≤ 1000) (d : h.DictOfH (tupleKind (mixKind P w)) a (entsX xs)) : ObjOk P w H h a (dX P w a xs) := by
  obtain ⟨o, es, ep, ho, hx, hd, he, _, nd⟩ := d
  refine ⟨⟨ns, few, o, es, ep, ho, hx, hd, he, nd⟩, ⟨o, ho⟩, fun h1 h2 ⟨ns, few, o, es, ep, ho, r⟩ kp => ⟨ns, few, o, es, ep, kp o ho, r⟩⟩
/-- {} -/
def tDNewX (P : Program) (w : World) : TE := fun _ H Q => ∀ p, H p = none → Q (.ref p) (upd H p (dX P w p []))
theorem pe_dnewX {pos : Pos} : PE X (.Dict [] [] pos) (tDNewX X.prog X.w) := ⟨fun pins s σ H Q I h =>
  wpAny_Dict_empty ⟨.ref s.heap.objs.size, _, I.laid (a := s.heap.objs.size) (o := dX X.prog X.w s.heap.objs.size []) (t' := s.toks) (fun _ _ q => Heap.get?_push_of_some _ q) (Nat.le_refl _)
    (dX_ok (beq_eq_false_iff_ne.mpr (Ne.symm (Nat.ne_of_lt I.big))) (Nat.zero_le _) (Heap.DictOfH.new s.heap)), rfl, h _ (I.hok.fresh (Nat.le_refl _))⟩⟩
/-- k in d -/
def rInX (P : Program) (w : World) (K : PySem.W.Frag) (neg : Bool) : R2 := fun y x H Q => ∃ (a b : Addr) (xs : List XEn) (k : List Key), x = .ref a ∧ y = .ref b ∧ H a = some (dX P w a xs) ∧ KeysX K H xs ∧ SqT K H b (k.map kV) ∧ Q (.bl (neg ^^ (getX xs k).isSome)) H
theorem op_notInX (hu : X.A.units + 1 < cLine) : OpR X (compareOp .NotIn) (rInX X.prog X.w X.K true) := by
  intro pins s σ H y x u v Q I ry rx h
  obtain ⟨a, b, xs, k, rfl, rfl, ea, ks, eb, q⟩ := h
  cases rx
  cases ry
  obtain ⟨ns, few, d⟩ := dX_at I ea ks
  refine wpAny_notIn_heap (tupleKind_room_in1 hu) (keyS I eb) ns d ?_
  rw [atKey_some]
  exact ⟨.bl _, H, I.tok _, rfl, by simpa using q⟩
/-- d[k] -/
def tDGetX (P : Program) (w : World) (K : PySem.W.Frag) (td ty : TE) : TE := fun σ H Q => td σ H fun x H1 => ty σ H1 fun y H2 => ∃ (a b t : Addr) (xs : List XEn) (k : List Key), x = .ref a ∧ y = .ref b ∧ H2 a = some (dX P w a xs) ∧ KeysX K H2 xs ∧ SqT K H2 b (k.map kV) ∧ getX xs k = some t ∧ Q (.ref t) H2
theorem pe_dgetX2 {o i : Expr} {pos : Pos} {td ty : TE} (hu : X.A.units + 1 < cLine) (ho : PE X o td) (hi : PE X i ty) (hs : NoSl i) : PE X (.Subscript o i pos) (tDGetX X.prog X.w X.K td ty) := by
  refine ⟨fun pins s σ H Q I h => ?_⟩
  refine subD_of PySem.F.slot_dict_getitem.lookup hs (thn (ho.run pins s σ H _ I h) fun u s1 ⟨x, H1, I1, rx, q1⟩ => thn (hi.run pins s1 σ H1 _ I1 q1) fun iv s2 ⟨y, H2, I2, ry, q2⟩ => ?_)
  obtain ⟨a, b, t, xs, k, rfl, rfl, ea, ks, eb, eg, q⟩ := q2
  cases rx
  cases ry
  obtain ⟨ns, few, d⟩ := dX_at I2 ea ks
  have ek := atKey_X xs k
  rw [eg] at ek
  obtain ⟨pr, hp, e2⟩ := Option.map_eq_some_iff.mp ek
  refine ⟨d.typeIs, wpAny_getItem_heap (tupleKind_room_in1 hu) (keyS I2 eb) d hp ?_⟩
  rw [e2]
  exact ⟨.ref t, H2, I2.tok _, rfl, q⟩
/-- d[k] = v -/
def rSetX (P : Program) (w : World) (K : PySem.W.Frag) : TSet := fun x y v H Q => ∃ (a b t : Addr) (xs : List XEn) (k : List Key), x = .ref a ∧ y = .ref b ∧ v = .ref t ∧ H a = some (dX P w a xs) ∧ KeysX K H xs ∧ SqT K H b (k.map kV) ∧ xs.length < 1000 ∧ Q (upd H a (dX P w a (putX xs k b t)))
theorem set_dX (hu : X.A.units + 1 < cLine) : PSet X (rSetX X.prog X.w X.K) := by
  intro pins s σ H x y v xv yv u Q I rx ry rv h
  obtain ⟨a, b, t, xs, k, rfl, rfl, rfl, ea, ks, eb, l, q⟩ := h
  cases rx
  cases ry
  cases rv
  obtain ⟨ns, few, d⟩ := dX_at I ea ks
  refine wpAny_setItem_heap (hsz := ?_) (tupleKind_room_in1 hu) (keyS I eb) d fun h1 d1 sb => ?_
  · refine ⟨_, ?_, q⟩
    rw [stored_X] at d1
    obtain ⟨ob, _, _, ho, _⟩ := id d1
    exact d_write I (by rw [ea]; exact True.intro) sb ⟨ob, ho⟩ (dX_ok ns (Nat.le_trans (putX_len xs k b t) l) d1)
  · unfold entsX
    rw [List.length_map]
    exact Nat.le_trans few (by decide)
end
/-! ### for k, v in d.items() -/
section
variable {P : Program} {w : World} {X : Cx} {pins : List (Addr × Obj)} {σ : L2.St} {H : Hp} {s : Shared} {K : PySem.W.Frag} {d : Addr} {o : Obj} {es : Array DictEntry} {ep : Nat} {xs : List XEn}
theorem frzX (I : Inv X pins σ H s) (h : H d = some (.frz o (dX X.prog X.w d xs))) : (d == sysModules) = false ∧ s.heap.get? d = some o ∧ o.ExactDict ∧ ∃ (es : Array DictEntry) (ep : Nat), o.data = .dict es ep ∧ es.size = xs.length ∧
    ∀ (i : Nat) (x : XEn), xs[i]? = some x → ∃ en : DictEntry, es[i]? = some en ∧ en.key = .ref x.2.1 ∧ en.val = .ref x.2.2 := by
  obtain ⟨hgd, ⟨ns, few, o2, es, ep, ho, hx, hdt, he, _⟩, _⟩ := I.hok d _ h
  rw [hgd] at ho
  cases ho
  refine ⟨ns, hgd, hx, es, ep, hdt, ?_, fun i x e => ?_⟩
  · rw [size_of_entries he]
    unfold entsX
    rw [List.length_map]
  · have q := entry_at he i
    unfold entsX at q
    rw [List.getElem?_map, e] at q
    exact ⟨_, q, rfl, rfl⟩
def Itix (P : Program) (w : World) (d : Addr) (o : Obj) (xs : List XEn) : It :=
  ⟨fun i H => H d = some (.frz o (dX P w d xs)) ∧ i < xs.length, fun i H x H' => ∃ (T : Addr) (e : XEn), xs[i]? = some e ∧ x = .ref T ∧ H T = none ∧ H' = upd H T (.tup [.ref e.2.1, .ref e.2.2]), fun i H => H d = some (.frz o (dX P w d xs)) ∧ xs.length ≤ i⟩
theorem turn_itemsX {elts : List Expr} {kk : Nat} {tpos : Pos} (it : Addr) (hod : o.data = .dict es ep) :
    Turn P w K (.Tuple elts kk tpos) (Itix P w d o xs) [it] it (fun i g => ∃ ky vl, IsItemIter g it d i xs.length ep ky vl) where
  mem := by simp
  obj := fun i g st b hb => by
    obtain rfl : b = it := by simpa using hb
    obtain ⟨_, _, e⟩ := st
    exact ⟨_, e, fun v z => nomatch z⟩
  keep := fun i g g' st k => by
    obtain ⟨ky, vl, e⟩ := st
    exact ⟨ky, vl, k it (by simp) _ e⟩
  item := by
    intro X p1 p2 p3 hc i pins s σ H E I hf st hg
    subst p1 p2 p3
    obtain ⟨hd, hi⟩ := hg
    obtain ⟨ns, hgd, hx, es', ep', hdt, hsz, ent⟩ := frzX I hd
    obtain ⟨rfl, rfl⟩ := dict_ep hod hdt
    have hkv := List.getElem?_eq_getElem hi
    obtain ⟨en, hen, hkey, hval⟩ := ent i _ hkv
    obtain ⟨ky, vl, he⟩ := st
    rw [← hsz] at he
    have lti : it < s.heap.objs.size := Heap.lt_size he
    have his : i < es'.size := by omega
    have een : es'[i] = en := by
      rw [Array.getElem?_eq_getElem his] at hen
      exact Option.some.inj hen
    refine DT.nextI he ⟨o, hgd, hx, hdt⟩ his fun h1 out hT hz kept => ?_
    rw [een] at out hT
    refine ⟨_, rfl, wpAny_letOwnedTupleGo_items (s := { s with heap := h1 }) out fun h2 he2 sb => ?_⟩
    have hT2 : h2.get? s.heap.objs.size = some { cls := .type "tuple", data := .seq #[en.key, en.val] } := (sb.2 _ (Nat.ne_of_gt lti)).trans hT
    have new : ObjOk X.prog X.w (upd H s.heap.objs.size (.tup [.ref xs[i].2.1, .ref xs[i].2.2])) h2 s.heap.objs.size (.tup [.ref xs[i].2.1, .ref xs[i].2.2]) :=
      ⟨by show 2 ≤ sizeLine; decide, [en.key, en.val], .cons hkey (.cons hval .nil), ⟨_, hT2, rfl, _, rfl⟩⟩
    have J : Inv X pins σ (upd H s.heap.objs.size (.tup [.ref xs[i].2.1, .ref xs[i].2.2])) { s with heap := h2 } :=
      I.turnedNew (t' := s.toks) (ch := [it]) (fun b ob hb e => (sb.2 b (by simpa using hb)).trans (kept b ob (by simpa using hb) e)) hf (Nat.le_refl _) new
    refine ⟨.ref s.heap.objs.size, _, J, rfl, ⟨_, xs[i], hkv, rfl, I.hok.fresh (Nat.le_refl _), rfl⟩, ⟨en.key, en.val, ?_⟩, fun b hb => ?_⟩
    · rw [← hsz]; exact he2
    · obtain rfl : b = it := by simpa using hb
      rw [upd_ne (Nat.ne_of_lt lti)]
      exact (hf b (by simp)).1
  done := by
    intro X p1 p2 p3 hc i pins s σ H E I hf st hg
    subst p1 p2 p3
    obtain ⟨hd, hi⟩ := hg
    obtain ⟨f0, f1, f2, f3, f4, f5⟩ := hf it (by simp)
    obtain ⟨ns, hgd, hx, es', ep', hdt, hsz, ent⟩ := frzX I hd
    obtain ⟨rfl, rfl⟩ := dict_ep hod hdt
    obtain ⟨ky, vl, he⟩ := st
    rw [← hsz] at he
    exact DT.endI (I.ok.hd hc) he ⟨o, hgd, hx, hdt⟩ (by omega) fun h1 eb => ⟨rfl, I.turned (t' := s.toks) (fun b ob hb e => eb b ob hb e) f0 f1 f3 f4 f5⟩
  self := fun A i s Q E st h => by
    obtain ⟨_, _, e⟩ := st
    exact PySem.W.kcp_self e h
end
def iItemsX (P : Program) (w : World) (td : TE) : TI := fun σ H R => td σ H fun x H1 => ∃ d o xs, x = .ref d ∧ H1 d = some (.frz o (dX P w d xs)) ∧ R (Itix P w d o xs) H1
theorem pi_itemsX {X : Cx} {e : Expr} {td : TE} {apos cpos : Pos} {elts : List Expr} {kk : Nat} {tpos : Pos} (he : PE X e td) (hbase : attributeBase e "items" X.env (eval e X.env) = eval e X.env := by rfl) (hline : (apos.endLine == cpos.line) = true := by rfl) :
    PI X (.Tuple elts kk tpos) (.Call (.Attribute e "items" apos) [] [] cpos) (iItemsX X.prog X.w td) := by
  refine ⟨fun pins s σ H R I h => ?_⟩
  refine wpAny_Call_method (T := "dict") (id := "dict.items") hbase rfl hline F.plainAttrs_dict F.slot_dict_items F.type_dict_items (thn (he.run pins s σ H _ I h) fun u t ⟨x, H1, J, rx, d, o, xs, ex, hd, q⟩ => ?_)
  subst ex
  obtain rfl : u = Value.ref d := rx
  obtain ⟨ns, hgd, hx, es, ep, hdt, hsz, ent⟩ := frzX J hd
  have raw : DT.Raw t.heap d es ep := ⟨o, hgd, hx, hdt⟩
  refine ⟨raw.typeIs, (fun b e => by cases e; exact ⟨o, hgd, hx.2.1⟩), ?_⟩
  have J2 : Inv X pins σ H1 { t with heap := t.heap.push { cls := .type "dict_items", data := .fields #[.ref d] } } := J.kept (t' := t.toks) fun b ob q => Heap.get?_push_of_some _ q
  have fin : wpAny (model X.prog X.w) X.A (pyIter (.ref t.heap.objs.size)) (PIE X pins σ (.Tuple elts kk tpos) R) X.xe { t with heap := t.heap.push { cls := .type "dict_items", data := .fields #[.ref d] } } := by
    refine DT.iterI (d := d) (es := es) (ep := ep) ⟨_, Heap.get?_push_size _ rfl, rfl, rfl⟩ (raw.push _) (pi_one (tk := t.toks) J2 _ (turn_itemsX _ hdt) ⟨.none, .none, ?_⟩ q)
    rw [← hsz]
    exact Heap.get?_push_size _ rfl
  show wpAny _ _ (callWith cpos (.builtin "dict.items") [.ref d] [] []) _ X.xe t
  exact method_meetsIn F.slot_dict_items F.entry_dict_items rfl (PySem.evalArgs_none ⟨rfl, raw.typeIs, F.args_dict_items_1 _, _, DT.meetsItems (es := es) (ep := ep) ns, ⟨raw, fin⟩⟩)
theorem walk_itemsX {P : Program} {w : World} {d : Addr} {o : Obj} {xs : List XEn} : Walk (Itix P w d o xs) xs.length (fun H => H d = some (.frz o (dX P w d xs)))
    (fun i H x H' => ∃ (T : Addr) (e : XEn), xs[i]? = some e ∧ x = .ref T ∧ H T = none ∧ H' = upd H T (.tup [.ref e.2.1, .ref e.2.2])) :=
  ⟨fun _ _ hi q => ⟨q, hi⟩, fun _ q => ⟨q, Nat.le_refl _⟩, fun _ _ _ _ _ _ y => y⟩
end NW
namespace NW
open PySem PySem.Spec PyProof.Rows L2
open TL (tl)
/-! ### lines of words -/
def Low (z : Str) : Prop := ∀ c ∈ tl z, 97 ≤ c ∧ c ≤ 122
def ln (ws : List Str) : Str := Txt.join " " ws
theorem tl_sp : tl (" " : Str) = [32] := by decide +kernel
theorem tl_nl : tl ("\n" : Str) = [10] := by decide +kernel
theorem mem_joinL {S : List Nat} {c : Nat} : ∀ {ps : List (List Nat)}, c ∈ TL.joinL S ps → c ∈ S ∨ ∃ p ∈ ps, c ∈ p
  | [], h => by cases h
  | [p], h => .inr ⟨p, List.mem_cons_self, h⟩
  | p :: q :: r, h => by
    rcases List.mem_append.mp (show c ∈ p ++ (S ++ TL.joinL S (q :: r)) from h) with h | h
    · exact .inr ⟨p, List.mem_cons_self, h⟩
    · rcases List.mem_append.mp h with h | h
      · exact .inl h
      · rcases mem_joinL h with h | ⟨p, m, h⟩
        · exact .inl h
        · exact .inr ⟨p, List.mem_cons_of_mem _ m, h⟩
theorem joinL_has {S : List Nat} {c : Nat} {p : List Nat} : ∀ {ps : List (List Nat)}, p ∈ ps → c ∈ p → c ∈ TL.joinL S ps
  | [], m, _ => by cases m
  | [q], m, h => by rw [List.mem_singleton.mp m] at h; exact h
  | a :: q :: r, m, h => by
    show c ∈ a ++ (S ++ TL.joinL S (q :: r))
    rcases List.mem_cons.mp m with rfl | m
    · exact List.mem_append_left _ h
    · exact List.mem_append_right _ (List.mem_append_right _ (joinL_has m h))
theorem joinL_len {S : List Nat} : ∀ ps : List (List Nat), (TL.joinL S ps).length ≤ (ps.map List.length).sum + ps.length * S.length
  | [] => Nat.zero_le _
  | [p] => by
    show p.length ≤ (p.length + 0) + 1 * S.length
    omega
  | p :: q :: r => by
    have ih := joinL_len (S := S) (q :: r)
    show (p ++ (S ++ TL.joinL S (q :: r))).length ≤ p.length + ((q :: r).map List.length).sum + ((q :: r).length + 1) * S.length
    rw [List.length_append, List.length_append, Nat.succ_mul]
    omega
theorem tl_J (y : Str) (ps : List Str) : tl (Txt.join y ps) = TL.joinL (tl y) (ps.map tl) := by rw [TL.join_eq, TL.tl_join]
theorem J_len (y : Str) (ps : List Str) : (Txt.join y ps).length ≤ (ps.map (·.length)).sum + ps.length * y.length := by
  have h := joinL_len (S := tl y) (ps.map tl)
  rw [len_tl, tl_J, len_tl y]
  rw [List.map_map, List.length_map] at h
  have e : ps.map (List.length ∘ tl) = ps.map (·.length) := List.map_congr_left fun z _ => (len_tl z).symm
  rw [e] at h
  exact h
theorem ln_mem {ws : List Str} {c : Nat} (h : c ∈ tl (ln ws)) : c = 32 ∨ ∃ z ∈ ws, c ∈ tl z := by
  unfold ln at h
  rw [tl_J, tl_sp] at h
  rcases mem_joinL h with h | ⟨p, m, h⟩
  · exact .inl (List.mem_singleton.mp h)
  · obtain ⟨z, mz, rfl⟩ := List.mem_map.mp m
    exact .inr ⟨z, mz, h⟩
theorem ln_split {ws : List Str} (ne : ws ≠ []) (h : ∀ z ∈ ws, Low z) : Txt.split (ln ws) " " = ws :=
  TL.split_join (s := 32) (S := []) tl_sp (by decide +kernel) ne fun z m c => by
    have := h z m 32 c
    omega
theorem txt_split {ls : List (List Str)} (ne : ls ≠ []) (h : ∀ ws ∈ ls, ∀ z ∈ ws, Low z) : Txt.split (Txt.join "\n" (ls.map ln)) "\n" = ls.map ln :=
  TL.split_join (s := 10) (S := []) tl_nl (by decide +kernel) (fun e => ne (List.map_eq_nil_iff.mp e)) fun x m c => by
    obtain ⟨ws, mw, rfl⟩ := List.mem_map.mp m
    rcases ln_mem c with c | ⟨z, mz, c⟩
    · cases c
    · have := h ws mw z mz 10 c
      omega
theorem txt_ne {ls : List (List Str)} {ws : List Str} {z : Str} (m : ws ∈ ls) (mz : z ∈ ws) (hz : 0 < z.length) : Txt.join "\n" (ls.map ln) ≠ "" := by
  intro e
  rw [len_tl] at hz
  obtain ⟨c, hc⟩ := List.exists_mem_of_length_pos hz
  have h1 : c ∈ tl (ln ws) := by
    unfold ln
    rw [tl_J]
    exact joinL_has (List.mem_map.mpr ⟨z, mz, rfl⟩) hc
  have h2 : c ∈ tl (Txt.join "\n" (ls.map ln)) := by
    rw [tl_J]
    exact joinL_has (List.mem_map.mpr ⟨ln ws, List.mem_map.mpr ⟨ws, m, rfl⟩, rfl⟩) h1
  rw [e] at h2
  have : tl ("" : Str) = [] := by decide +kernel
  rw [this] at h2
  cases h2
theorem sum_le {α : Type} {f : α → Nat} {b : Nat} : ∀ {l : List α}, (∀ x ∈ l, f x ≤ b) → (l.map f).sum ≤ l.length * b
  | [], _ => Nat.zero_le _
  | x :: r, h => by
    have ih := sum_le (l := r) fun y m => h y (List.mem_cons_of_mem _ m)
    have := h x List.mem_cons_self
    simp only [List.map_cons, List.sum_cons, List.length_cons, Nat.succ_mul]
    omega
theorem len_one : (" " : Str).length = 1 ∧ ("\n" : Str).length = 1 := by decide +kernel
theorem ln_len {ws : List Str} (h : ∀ z ∈ ws, z.length ≤ 8) : (ln ws).length ≤ ws.length * 9 := by
  have h1 := J_len " " ws
  have h2 := sum_le (f := fun z : Str => z.length) h
  rw [len_one.1] at h1
  unfold ln
  omega
/-- what a join of words asks -/
theorem ln_ok {ws : List Str} (h : ∀ z ∈ ws, z.length ≤ 8) (n : ws.length ≤ 1000) : (ws.map (·.length)).sum + ws.length * (" " : Str).length ≤ 16777216 := by
  have h2 := sum_le (f := fun z : Str => z.length) h
  rw [len_one.1]
  omega
theorem txt_len {ls : List (List Str)} (h : ∀ ws ∈ ls, ws.length ≤ 20 ∧ ∀ z ∈ ws, z.length ≤ 8) (n : ls.length ≤ 1000) : ((ls.map ln).map (·.length)).sum + (ls.map ln).length * ("\n" : Str).length ≤ 200000 := by
  rw [List.map_map, List.length_map, len_one.2]
  have h2 := sum_le (f := (fun z : Str => z.length) ∘ ln) (b := 180) (l := ls) fun ws m => by
    have := ln_len (h ws m).2
    have := (h ws m).1
    show (ln ws).length ≤ 180
    omega
  omega
/-! ### blocks -/
def shW : Shp → List Str
  | .base z => [z]
  | .sure s => "sure" :: shW s
  | .list s => "list" :: shW s
inductive Ln
  | kind (n : Str) (fc : List Str)
  | face (n : Str)
  | union (n : Str) (ms : List Str)
  | root (n : Str)
  | fld (f : CF)
def Ln.ws : Ln → List Str
  | .kind n fc => "kind" :: n :: fc
  | .face n => ["face", n]
  | .union n ms => "union" :: n :: ms
  | .root n => ["root", n]
  | .fld f => "field" :: f.1 :: shW f.2
inductive Blk
  | kind (n : Str) (fc : List Str) (fd : List CF)
  | face (n : Str) (fd : List CF)
  | union (n : Str) (ms : List Str)
  | root (n : Str)
def Blk.lns : Blk → List Ln
  | .kind n fc fd => .kind n fc :: fd.map .fld
  | .face n fd => .face n :: fd.map .fld
  | .union n ms => [.union n ms]
  | .root n => [.root n]
def lnsOf (B : List Blk) : List Ln := B.flatMap Blk.lns
def txtOf (B : List Blk) : Str := Txt.join "\n" ((lnsOf B).map fun l => ln l.ws)
abbrev kK (n : Str) : List Str := [("kind" : Str), n]
abbrev kF (n : Str) : List Str := [("face" : Str), n]
abbrev kU (n : Str) : List Str := [("union" : Str), n]
abbrev kR : List Str := [("root" : Str), ("" : Str)]
/-- a heading: its key and its other words -/
def Blk.key : Blk → List Str
  | .kind n _ _ => kK n
  | .face n _ => kF n
  | .union n _ => kU n
  | .root _ => kR
def Blk.hd : Blk → List Str × List Str
  | .kind n fc _ => (kK n, fc)
  | .face n _ => (kF n, [])
  | .union n ms => (kU n, ms)
  | .root n => (kR, [n])
def Blk.sd : Blk → List (List Str × List CF)
  | .kind n _ fd => [(kK n, fd)]
  | .face n fd => [(kF n, fd)]
  | .union _ _ => []
  | .root _ => []
def Blk.fds : Blk → List CF
  | .kind _ _ fd => fd
  | .face _ fd => fd
  | .union _ _ => []
  | .root _ => []
/-! ### what is read, line by line -/
structure PSt where
  hs : List (List Str × List Str)
  ss : List (List Str × List CF)
  la : List Str
def pstep (s : PSt) : Ln → PSt
  | .kind n fc => ⟨s.hs ++ [(kK n, fc)], s.ss ++ [(kK n, [])], kK n⟩
  | .face n => ⟨s.hs ++ [(kF n, [])], s.ss ++ [(kF n, [])], kF n⟩
  | .union n ms => ⟨s.hs ++ [(kU n, ms)], s.ss, kU n⟩
  | .root n => ⟨s.hs ++ [(kR, [n])], s.ss, kR⟩
  | .fld f => { s with ss := s.ss.map fun e => if e.1 = s.la then (e.1, e.2 ++ [f]) else e }
def pok (s : PSt) : Ln → Prop
  | .kind n _ => kK n ∉ s.hs.map (·.1) ∧ kK n ∉ s.ss.map (·.1)
  | .face n => kF n ∉ s.hs.map (·.1) ∧ kF n ∉ s.ss.map (·.1)
  | .union n _ => kU n ∉ s.hs.map (·.1)
  | .root _ => kR ∉ s.hs.map (·.1)
  | .fld f => ∃ fd, (s.la, fd) ∈ s.ss ∧ f.1 ∉ fd.map (·.1) ∧ fd.length < 6
def RunsTo : PSt → List Ln → PSt → Prop
  | s, [], t => s = t
  | s, l :: r, t => pok s l ∧ RunsTo (pstep s l) r t
theorem RunsTo.app : ∀ {L M : List Ln} {s t u : PSt}, RunsTo s L t → RunsTo t M u → RunsTo s (L ++ M) u
  | [], M, s, t, u, h, k => by cases (show s = t from h); exact k
  | l :: L, M, s, t, u, h, k => ⟨h.1, h.2.app k⟩
theorem run_flds {hs : List (List Str × List Str)} {k : List Str} : ∀ {fd done : List CF} {ss : List (List Str × List CF)}, k ∉ ss.map (·.1) → ((done ++ fd).map (·.1)).Nodup → (done ++ fd).length ≤ 6 →
    RunsTo ⟨hs, ss ++ [(k, done)], k⟩ (fd.map .fld) ⟨hs, ss ++ [(k, done ++ fd)], k⟩
  | [], done, ss, _, _, _ => by
    show _ = _
    rw [List.append_nil]
  | f :: fd, done, ss, hk, nd, hl => by
    have e : (ss ++ [(k, done)]).map (fun e => if e.1 = k then (e.1, e.2 ++ [f]) else e) = ss ++ [(k, done ++ [f])] := by
      rw [List.map_append]
      congr 1
      · refine (List.map_congr_left fun e m => ?_).trans (List.map_id _)
        have : e.1 ≠ k := fun h => hk (h ▸ List.mem_map.mpr ⟨e, m, rfl⟩)
        rw [if_neg this]
        rfl
      · show [if k = k then (k, done ++ [f]) else (k, done)] = _
        rw [if_pos rfl]
    refine ⟨⟨done, List.mem_append_right _ (List.mem_singleton.mpr rfl), ?_, ?_⟩, ?_⟩
    · rw [List.map_append] at nd
      intro m
      exact (List.nodup_append.mp nd).2.2 _ m _ List.mem_cons_self rfl
    · rw [List.length_append, List.length_cons] at hl
      omega
    · show RunsTo ⟨hs, (ss ++ [(k, done)]).map (fun e => if e.1 = k then (e.1, e.2 ++ [f]) else e), k⟩ (fd.map .fld) _
      rw [e]
      have : done ++ f :: fd = (done ++ [f]) ++ fd := by simp
      rw [this]
      rw [this] at nd hl
      exact run_flds hk nd hl
theorem run_blk {b : Blk} {hs : List (List Str × List Str)} {ss : List (List Str × List CF)} {la : List Str} (h1 : b.key ∉ hs.map (·.1)) (h2 : b.key ∉ ss.map (·.1)) (nd : (b.fds.map (·.1)).Nodup) (hl : b.fds.length ≤ 6) :
    RunsTo ⟨hs, ss, la⟩ b.lns ⟨hs ++ [b.hd], ss ++ b.sd, b.key⟩ := by
  cases b with
  | kind n fc fd => exact ⟨⟨h1, h2⟩, run_flds (done := []) h2 nd hl⟩
  | face n fd => exact ⟨⟨h1, h2⟩, run_flds (done := []) h2 nd hl⟩
  | union n ms => exact ⟨h1, by show _ = _; rw [show Blk.sd (.union n ms) = [] from rfl, List.append_nil]; rfl⟩
  | root n => exact ⟨h1, by show _ = _; rw [show Blk.sd (.root n) = [] from rfl, List.append_nil]; rfl⟩
theorem sd_keys {b : Blk} {e : List Str × List CF} (h : e ∈ b.sd) : e.1 = b.key ∧ e.2 = b.fds := by
  cases b with
  | kind n fc fd => rw [List.mem_singleton.mp h]; exact ⟨rfl, rfl⟩
  | face n fd => rw [List.mem_singleton.mp h]; exact ⟨rfl, rfl⟩
  | union n ms => cases h
  | root n => cases h
theorem hd_key (b : Blk) : b.hd.1 = b.key := by cases b <;> rfl
theorem run_all : ∀ {B done : List Blk} {la : List Str}, ((done ++ B).map Blk.key).Nodup → (∀ b ∈ B, (b.fds.map (·.1)).Nodup ∧ b.fds.length ≤ 6) →
    ∃ la', RunsTo ⟨done.map Blk.hd, done.flatMap Blk.sd, la⟩ (lnsOf B) ⟨(done ++ B).map Blk.hd, (done ++ B).flatMap Blk.sd, la'⟩
  | [], done, la, _, _ => ⟨la, by show _ = _; rw [List.append_nil]⟩
  | b :: B, done, la, nd, hb => by
    have e : done ++ b :: B = (done ++ [b]) ++ B := by simp
    rw [e] at nd ⊢
    obtain ⟨la', h⟩ := run_all (B := B) (done := done ++ [b]) (la := b.key) nd fun x m => hb x (List.mem_cons_of_mem _ m)
    refine ⟨la', ?_⟩
    obtain ⟨n1, n2⟩ := hb b List.mem_cons_self
    have hk : b.key ∉ done.map Blk.key := by
      rw [List.map_append, List.map_append] at nd
      have := (List.nodup_append.mp nd).1
      intro m
      exact (List.nodup_append.mp this).2.2 _ m _ (List.mem_singleton.mpr rfl) rfl
    show RunsTo _ (b.lns ++ lnsOf B) _
    refine (run_blk (b := b) ?_ ?_ n1 n2).app ?_
    · rw [List.map_map]
      have : (Prod.fst ∘ Blk.hd) = Blk.key := funext hd_key
      rw [this]
      exact hk
    · intro m
      obtain ⟨x, mx, ex⟩ := List.mem_map.mp m
      obtain ⟨c, mc, hx⟩ := List.mem_flatMap.mp mx
      exact hk (List.mem_map.mpr ⟨c, mc, (sd_keys hx).1.symm.trans ex⟩)
    · have h1 : done.map Blk.hd ++ [b.hd] = (done ++ [b]).map Blk.hd := by rw [List.map_append]; rfl
      have h2 : done.flatMap Blk.sd ++ b.sd = (done ++ [b]).flatMap Blk.sd := by rw [List.flatMap_append]; simp
      rw [h1, h2]
      exact h
end NW
namespace NW
open PySem PySem.Spec PyProof.Rows L2
open TL (tl)
def nK : Blk → Option Str | .kind n _ _ => some n | _ => none
def nF : Blk → Option Str | .face n _ => some n | _ => none
def nU : Blk → Option Str | .union n _ => some n | _ => none
def nR : Blk → Option Str | .root n => some n | _ => none
/-- blocks that tell just these rows -/
structure GoodB (ks : List KRow) (fs : List FRow) (us : List URow) (root : Str) (B : List Blk) : Prop where
  kn : (B.filterMap nK).Perm (ks.map (·.nm))
  fn : (B.filterMap nF).Perm (fs.map (·.nm))
  un : (B.filterMap nU).Perm (us.map (·.nm))
  rn : B.filterMap nR = [root]
  kc : ∀ n fc fd, Blk.kind n fc fd ∈ B → ∃ k ∈ ks, n = k.nm ∧ fc.Perm k.fcs ∧ fd.Perm (cfs k.fds)
  fc : ∀ n fd, Blk.face n fd ∈ B → ∃ f ∈ fs, n = f.nm ∧ fd.Perm (cfs f.fds)
  uc : ∀ n ms, Blk.union n ms ∈ B → ∃ u ∈ us, n = u.nm ∧ ms.Perm u.ms
theorem GoodB.perm {ks : List KRow} {fs : List FRow} {us : List URow} {root : Str} {B B' : List Blk} (h : GoodB ks fs us root B) (p : B'.Perm B) : GoodB ks fs us root B' :=
  ⟨(p.filterMap nK).trans h.kn, (p.filterMap nF).trans h.fn, (p.filterMap nU).trans h.un, List.perm_singleton.mp (h.rn ▸ p.filterMap nR), fun n a b m => h.kc n a b (p.mem_iff.mp m), fun n a m => h.fc n a (p.mem_iff.mp m), fun n a m => h.uc n a (p.mem_iff.mp m)⟩
theorem keys_nd : ∀ {B : List Blk}, (B.filterMap nK).Nodup → (B.filterMap nF).Nodup → (B.filterMap nU).Nodup → (B.filterMap nR).length ≤ 1 → (B.map Blk.key).Nodup
  | [], _, _, _, _ => List.nodup_nil
  | b :: r, h1, h2, h3, h4 => by
    have w1 : ¬ (("kind" : Str) = "face") := by decide +kernel
    have w2 : ¬ (("kind" : Str) = "union") := by decide +kernel
    have w3 : ¬ (("kind" : Str) = "root") := by decide +kernel
    have w4 : ¬ (("face" : Str) = "union") := by decide +kernel
    have w5 : ¬ (("face" : Str) = "root") := by decide +kernel
    have w6 : ¬ (("union" : Str) = "root") := by decide +kernel
    have hd : ∀ {x y : Str} {l m : List Str}, x :: l = y :: m → x = y := fun e => (List.cons.inj e).1
    have sub : ∀ (f : Blk → Option Str), ((b :: r).filterMap f).Nodup → (r.filterMap f).Nodup := fun f h => by
      rw [List.filterMap_cons] at h
      split at h
      · exact h
      · exact (List.nodup_cons.mp h).2
    have l4 : (r.filterMap nR).length ≤ 1 := by
      rw [List.filterMap_cons] at h4
      split at h4
      · exact h4
      · simp only [List.length_cons] at h4
        omega
    refine List.nodup_cons.mpr ⟨fun m => ?_, keys_nd (sub _ h1) (sub _ h2) (sub _ h3) l4⟩
    obtain ⟨c, mc, e⟩ := List.mem_map.mp m
    cases b with
    | kind n a1 a2 =>
      cases c with
      | kind n' b1 b2 =>
        have : n' = n := (List.cons.inj (List.cons.inj e).2).1
        subst this
        rw [List.filterMap_cons] at h1
        exact (List.nodup_cons.mp h1).1 (List.mem_filterMap.mpr ⟨_, mc, rfl⟩)
      | face n' b1 => exact w1 (hd e).symm
      | union n' b1 => exact w2 (hd e).symm
      | root n' => exact w3 (hd e).symm
    | face n a1 =>
      cases c with
      | kind n' b1 b2 => exact w1 (hd e)
      | face n' b1 =>
        have : n' = n := (List.cons.inj (List.cons.inj e).2).1
        subst this
        rw [List.filterMap_cons] at h2
        exact (List.nodup_cons.mp h2).1 (List.mem_filterMap.mpr ⟨_, mc, rfl⟩)
      | union n' b1 => exact w4 (hd e).symm
      | root n' => exact w5 (hd e).symm
    | union n a1 =>
      cases c with
      | kind n' b1 b2 => exact w2 (hd e)
      | face n' b1 => exact w4 (hd e)
      | union n' b1 =>
        have : n' = n := (List.cons.inj (List.cons.inj e).2).1
        subst this
        rw [List.filterMap_cons] at h3
        exact (List.nodup_cons.mp h3).1 (List.mem_filterMap.mpr ⟨_, mc, rfl⟩)
      | root n' => exact w6 (hd e).symm
    | root n =>
      cases c with
      | kind n' b1 b2 => exact w3 (hd e)
      | face n' b1 => exact w5 (hd e)
      | union n' b1 => exact w6 (hd e)
      | root n' =>
        rw [List.filterMap_cons] at h4
        have := List.length_pos_of_mem (List.mem_filterMap.mpr ⟨_, mc, rfl⟩ : n' ∈ r.filterMap nR)
        simp only [nR, List.length_cons] at h4
        omega
theorem blk_count : ∀ B : List Blk, B.length = (B.filterMap nK).length + (B.filterMap nF).length + (B.filterMap nU).length + (B.filterMap nR).length
  | [] => rfl
  | b :: r => by
    have ih := blk_count r
    cases b <;> (simp only [List.length_cons, List.filterMap_cons, nK, nF, nU, nR]; omega)
/-- a line of names -/
def LnOk (l : Ln) : Prop := match l with
  | .kind n fc => IsName n ∧ (∀ z ∈ fc, IsName z) ∧ fc.length ≤ 3
  | .face n => IsName n
  | .union n ms => IsName n ∧ (∀ z ∈ ms, IsName z) ∧ ms.length ≤ 4
  | .root n => IsName n
  | .fld f => IsName f.1 ∧ (∀ z ∈ shW f.2, IsName z) ∧ (shW f.2).length ≤ 5
theorem nm_kind : IsName "kind" := ⟨by decide +kernel, by decide +kernel, by decide +kernel⟩
theorem nm_face : IsName "face" := ⟨by decide +kernel, by decide +kernel, by decide +kernel⟩
theorem nm_union : IsName "union" := ⟨by decide +kernel, by decide +kernel, by decide +kernel⟩
theorem nm_root : IsName "root" := ⟨by decide +kernel, by decide +kernel, by decide +kernel⟩
theorem nm_field : IsName "field" := ⟨by decide +kernel, by decide +kernel, by decide +kernel⟩
theorem nm_sure : IsName "sure" := ⟨by decide +kernel, by decide +kernel, by decide +kernel⟩
theorem nm_list : IsName "list" := ⟨by decide +kernel, by decide +kernel, by decide +kernel⟩
theorem nm_number : IsName "number" := ⟨by decide +kernel, by decide +kernel, by decide +kernel⟩
theorem nm_text : IsName "text" := ⟨by decide +kernel, by decide +kernel, by decide +kernel⟩
theorem LnOk.ws {l : Ln} (h : LnOk l) : (∀ z ∈ l.ws, IsName z) ∧ l.ws.length ≤ 20 ∧ 2 ≤ l.ws.length := by
  cases l with
  | kind n fc =>
    refine ⟨fun z m => ?_, ?_, ?_⟩
    · rcases List.mem_cons.mp m with rfl | m
      · exact nm_kind
      · rcases List.mem_cons.mp m with rfl | m
        · exact h.1
        · exact h.2.1 z m
    · have := h.2.2
      show fc.length + 1 + 1 ≤ 20
      omega
    · show 2 ≤ fc.length + 1 + 1
      omega
  | face n =>
    refine ⟨fun z m => ?_, by show 2 ≤ 20; decide, Nat.le_refl _⟩
    rcases List.mem_cons.mp m with rfl | m
    · exact nm_face
    · rw [List.mem_singleton.mp m]; exact h
  | union n ms =>
    refine ⟨fun z m => ?_, ?_, ?_⟩
    · rcases List.mem_cons.mp m with rfl | m
      · exact nm_union
      · rcases List.mem_cons.mp m with rfl | m
        · exact h.1
        · exact h.2.1 z m
    · have := h.2.2
      show ms.length + 1 + 1 ≤ 20
      omega
    · show 2 ≤ ms.length + 1 + 1
      omega
  | root n =>
    refine ⟨fun z m => ?_, by show 2 ≤ 20; decide, Nat.le_refl _⟩
    rcases List.mem_cons.mp m with rfl | m
    · exact nm_root
    · rw [List.mem_singleton.mp m]; exact h
  | fld f =>
    refine ⟨fun z m => ?_, ?_, ?_⟩
    · rcases List.mem_cons.mp m with rfl | m
      · exact nm_field
      · rcases List.mem_cons.mp m with rfl | m
        · exact h.1
        · exact h.2.1 z m
    · have := h.2.2
      show (shW f.2).length + 1 + 1 ≤ 20
      omega
    · show 2 ≤ (shW f.2).length + 1 + 1
      omega
theorem shW_ok {bs : List Str} (hb : ∀ z ∈ bs, IsName z) : ∀ {s : Shp} {n : Nat} {o : Bool}, okS bs n o s → (∀ z ∈ shW s, IsName z) ∧ (shW s).length ≤ n + 1
  | .base z, n, o, h => by
    have hz : z ∈ bs := by cases n <;> exact h
    exact ⟨fun y m => by rw [List.mem_singleton.mp m]; exact hb z hz, by show 1 ≤ n + 1; omega⟩
  | .sure s, 0, o, h => by cases h
  | .list s, 0, o, h => by cases h
  | .sure s, n + 1, o, h => by
    obtain ⟨a, b⟩ := shW_ok hb (s := s) (n := n) (o := true) h.2
    refine ⟨fun y m => ?_, by show (shW s).length + 1 ≤ n + 1 + 1; omega⟩
    rcases List.mem_cons.mp m with rfl | m
    · exact nm_sure
    · exact a y m
  | .list s, n + 1, o, h => by
    obtain ⟨a, b⟩ := shW_ok hb (s := s) (n := n) (o := false) h
    refine ⟨fun y m => ?_, by show (shW s).length + 1 ≤ n + 1 + 1; omega⟩
    rcases List.mem_cons.mp m with rfl | m
    · exact nm_list
    · exact a y m
section
variable {ks : List KRow} {fs : List FRow} {us : List URow} {root : Str} {B : List Blk}
theorem SchOk.names (ok : SchOk ks fs us root) : ∀ z ∈ bsOf ks fs us, IsName z := by
  intro z m
  rcases List.mem_append.mp (show z ∈ [("number" : Str), ("text" : Str)] ++ _ from m) with m | m
  · rcases List.mem_cons.mp m with rfl | m
    · exact nm_number
    · rw [List.mem_singleton.mp m]; exact nm_text
  · rcases List.mem_append.mp m with m | m
    · obtain ⟨k, mk, rfl⟩ := List.mem_map.mp m
      exact ok.nk k mk
    · rcases List.mem_append.mp m with m | m
      · obtain ⟨k, mk, rfl⟩ := List.mem_map.mp m
        exact ok.nf k mk
      · obtain ⟨k, mk, rfl⟩ := List.mem_map.mp m
        exact ok.nu k mk
theorem FdsOk.cf {bs : List Str} {fds : List Fld} {n : Nat} {fd : List CF} (ok : FdsOk bs fds n) (hb : ∀ z ∈ bs, IsName z) (p : fd.Perm (cfs fds)) : (fd.map (·.1)).Nodup ∧ fd.length ≤ n ∧ ∀ f ∈ fd, LnOk (.fld f) := by
  refine ⟨(p.map _).nodup_iff.mpr (by rw [cfs_names]; exact ok.nd), by rw [p.length_eq]; unfold cfs; rw [List.length_map]; exact ok.n1, fun f m => ?_⟩
  obtain ⟨g, mg, rfl⟩ := List.mem_map.mp (p.mem_iff.mp m)
  obtain ⟨a, b⟩ := shW_ok hb (ok.sh g mg)
  exact ⟨ok.nm g mg, a, b⟩
theorem GoodB.blk (g : GoodB ks fs us root B) (ok : SchOk ks fs us root) {b : Blk} (m : b ∈ B) : (b.fds.map (·.1)).Nodup ∧ b.fds.length ≤ 5 ∧ ∀ l ∈ b.lns, LnOk l := by
  have hb := ok.names
  cases b with
  | kind n fc fd =>
    obtain ⟨k, mk, rfl, p1, p2⟩ := g.kc n fc fd m
    obtain ⟨a1, a2, a3⟩ := (ok.kd k mk).cf hb p2
    refine ⟨a1, a2, fun l ml => ?_⟩
    rcases List.mem_cons.mp ml with rfl | ml
    · obtain ⟨c1, c2, c3⟩ := ok.kf k mk
      refine ⟨ok.nk k mk, fun z mz => ?_, by rw [p1.length_eq]; exact c3⟩
      obtain ⟨f, mf, rfl⟩ := List.mem_map.mp (c2 z (p1.mem_iff.mp mz))
      exact ok.nf f mf
    · obtain ⟨f, mf, rfl⟩ := List.mem_map.mp ml
      exact a3 f mf
  | face n fd =>
    obtain ⟨k, mk, rfl, p2⟩ := g.fc n fd m
    obtain ⟨a1, a2, a3⟩ := (ok.fd k mk).cf hb p2
    refine ⟨a1, Nat.le_trans a2 (by decide), fun l ml => ?_⟩
    rcases List.mem_cons.mp ml with rfl | ml
    · exact ok.nf k mk
    · obtain ⟨f, mf, rfl⟩ := List.mem_map.mp ml
      exact a3 f mf
  | union n ms =>
    obtain ⟨k, mk, rfl, p2⟩ := g.uc n ms m
    refine ⟨List.nodup_nil, Nat.zero_le _, fun l ml => ?_⟩
    rw [List.mem_singleton.mp ml]
    obtain ⟨c1, c2, c3, c4⟩ := ok.ud k mk
    refine ⟨ok.nu k mk, fun z mz => ?_, by rw [p2.length_eq]; exact c3⟩
    obtain ⟨f, mf, rfl⟩ := List.mem_map.mp (c4 z (p2.mem_iff.mp mz))
    exact ok.nk f mf
  | root n =>
    refine ⟨List.nodup_nil, Nat.zero_le _, fun l ml => ?_⟩
    rw [List.mem_singleton.mp ml]
    have : n ∈ B.filterMap nR := List.mem_filterMap.mpr ⟨_, m, rfl⟩
    rw [g.rn] at this
    rw [List.mem_singleton.mp this]
    obtain ⟨f, mf, ef⟩ := List.mem_map.mp ok.rt
    show IsName root
    rw [← ef]
    exact ok.nk f mf
theorem perm_len {α : Type} {f : α → Str} {l : List Str} {m : List α} (h : l.Perm (m.map f)) : l.length = m.length := by rw [h.length_eq, List.length_map]
theorem GoodB.few (g : GoodB ks fs us root B) (ok : SchOk ks fs us root) : B.length ≤ 13 := by
  have h := blk_count B
  rw [perm_len g.kn, perm_len g.fn, perm_len g.un, g.rn] at h
  have := ok.k1
  have := ok.f1
  have := ok.u1
  simp at h
  omega
theorem lns_len (b : Blk) : b.lns.length = 1 + b.fds.length := by
  cases b <;> simp [Blk.lns, Blk.fds] <;> omega
theorem GoodB.lines (g : GoodB ks fs us root B) (ok : SchOk ks fs us root) : (lnsOf B).length ≤ 100 ∧ ∀ l ∈ lnsOf B, LnOk l := by
  refine ⟨?_, fun l m => ?_⟩
  · have h := sum_le (f := fun b : Blk => b.lns.length) (b := 6) (l := B) fun b m => by
      have := (g.blk ok m).2.1
      show b.lns.length ≤ 6
      rw [lns_len]
      omega
    have := g.few ok
    unfold lnsOf
    rw [List.length_flatMap]
    omega
  · obtain ⟨b, mb, hl⟩ := List.mem_flatMap.mp m
    exact (g.blk ok mb).2.2 l hl
theorem GoodB.run (g : GoodB ks fs us root B) (ok : SchOk ks fs us root) : ∃ la, RunsTo ⟨[], [], []⟩ (lnsOf B) ⟨B.map Blk.hd, B.flatMap Blk.sd, la⟩ := by
  have nd := keys_nd (g.kn.nodup_iff.mpr ok.ndk) (g.fn.nodup_iff.mpr ok.ndf) (g.un.nodup_iff.mpr ok.ndu) (by rw [g.rn]; exact Nat.le_refl _)
  exact run_all (done := []) nd fun b m => ⟨(g.blk ok m).1, Nat.le_trans (g.blk ok m).2.1 (by decide)⟩
theorem GoodB.hasRoot (g : GoodB ks fs us root B) : Blk.root root ∈ B := by
  have : root ∈ B.filterMap nR := by rw [g.rn]; exact List.mem_singleton.mpr rfl
  obtain ⟨b, mb, e⟩ := List.mem_filterMap.mp this
  cases b <;> simp [nR] at e
  subst e
  exact mb
end
/-! ### the blocks in their order -/
open Classical in
noncomputable def srt (l : List Str) : List Str := if h : ∃ ys : List Str, ys.Perm l ∧ sortedS ys = true then choose h else []
theorem srt_eq {l ys : List Str} (p : ys.Perm l) (s : sortedS ys = true) : srt l = ys := by
  have h : ∃ ys : List Str, ys.Perm l ∧ sortedS ys = true := ⟨ys, p, s⟩
  unfold srt
  rw [dif_pos h]
  obtain ⟨a, b⟩ := Classical.choose_spec h
  exact sorted_one b s (a.trans p.symm)
noncomputable def ord (t : Bool) (l : List Str) : List Str := if t then (srt l).reverse else srt l
def shOf (c : List CF) (g : Str) : Shp := match c.find? fun f => decide (f.1 = g) with | some f => f.2 | none => .base g
noncomputable def ordF (t : Bool) (c : List CF) : List CF := (ord t (c.map (·.1))).map fun g => (g, shOf c g)
def kFc (ks : List KRow) (z : Str) : List Str := match ks.find? fun k => decide (k.nm = z) with | some k => k.fcs | none => []
def kFd (ks : List KRow) (z : Str) : List CF := match ks.find? fun k => decide (k.nm = z) with | some k => cfs k.fds | none => []
def fFd (fs : List FRow) (z : Str) : List CF := match fs.find? fun k => decide (k.nm = z) with | some k => cfs k.fds | none => []
def uMs (us : List URow) (z : Str) : List Str := match us.find? fun k => decide (k.nm = z) with | some k => k.ms | none => []
theorem find_one {α : Type} {f : α → Str} : ∀ {l : List α} {a : α}, (l.map f).Nodup → a ∈ l → l.find? (fun x => decide (f x = f a)) = some a
  | x :: r, a, nd, m => by
    have nd' : f x ∉ r.map f ∧ (r.map f).Nodup := List.nodup_cons.mp nd
    rcases List.mem_cons.mp m with rfl | m
    · rw [List.find?_cons_of_pos (by simp)]
    · have : ¬ f x = f a := fun e => nd'.1 (e ▸ List.mem_map.mpr ⟨a, m, rfl⟩)
      rw [List.find?_cons_of_neg (by simpa using this)]
      exact find_one nd'.2 m
theorem kFc_of {ks : List KRow} {k : KRow} (nd : (ks.map (·.nm)).Nodup) (m : k ∈ ks) : kFc ks k.nm = k.fcs := by unfold kFc; rw [find_one (f := fun k : KRow => k.nm) nd m]
theorem kFd_of {ks : List KRow} {k : KRow} (nd : (ks.map (·.nm)).Nodup) (m : k ∈ ks) : kFd ks k.nm = cfs k.fds := by unfold kFd; rw [find_one (f := fun k : KRow => k.nm) nd m]
theorem fFd_of {ks : List FRow} {k : FRow} (nd : (ks.map (·.nm)).Nodup) (m : k ∈ ks) : fFd ks k.nm = cfs k.fds := by unfold fFd; rw [find_one (f := fun k : FRow => k.nm) nd m]
theorem uMs_of {ks : List URow} {k : URow} (nd : (ks.map (·.nm)).Nodup) (m : k ∈ ks) : uMs ks k.nm = k.ms := by unfold uMs; rw [find_one (f := fun k : URow => k.nm) nd m]
theorem shOf_of {c : List CF} {f : CF} (nd : (c.map (·.1)).Nodup) (m : f ∈ c) : shOf c f.1 = f.2 := by unfold shOf; rw [find_one (f := fun f : CF => f.1) nd m]
noncomputable def canB (t : Bool) (ks : List KRow) (fs : List FRow) (us : List URow) (root : Str) : List Blk :=
  (srt (ks.map (·.nm))).map (fun z => .kind z (ord t (kFc ks z)) (ordF t (kFd ks z))) ++ ((srt (fs.map (·.nm))).map (fun z => .face z (ordF t (fFd fs z))) ++ ((srt (us.map (·.nm))).map (fun z => .union z (ord t (uMs us z))) ++ [.root root]))
/-- a list that can be sorted -/
def CanS (l : List Str) : Prop := ∃ ys : List Str, ys.Perm l ∧ sortedS ys = true
theorem CanS.p {l : List Str} (h : CanS l) : (srt l).Perm l := by
  obtain ⟨ys, p, s⟩ := h
  rw [srt_eq p s]
  exact p
theorem CanS.o {l : List Str} (h : CanS l) (t : Bool) : (ord t l).Perm l := by
  unfold ord
  split
  · exact (List.reverse_perm _).trans h.p
  · exact h.p
theorem CanS.f {c : List CF} (h : CanS (c.map (·.1))) (nd : (c.map (·.1)).Nodup) (t : Bool) : (ordF t c).Perm c := by
  unfold ordF
  have p := h.o t
  generalize ord t (c.map (·.1)) = l at p
  refine (p.map fun g => ((g, shOf c g) : CF)).trans ?_
  rw [List.map_map]
  have : c.map ((fun g => ((g, shOf c g) : CF)) ∘ fun f => f.1) = c := by
    refine (List.map_congr_left fun f m => ?_).trans (List.map_id c)
    show ((f.1, shOf c f.1) : CF) = f
    rw [shOf_of nd m]
  rw [this]
end NW
namespace NW
open PySem PySem.Spec PyProof.Rows L2
open TL (tl)
theorem lt_asym : ∀ {a b : List Nat}, ltCps a b = true → ltCps b a = false
  | [], [], h => by cases h
  | [], _ :: _, _ => rfl
  | _ :: _, [], h => by cases h
  | x :: a, y :: b, h => by
    simp only [ltCps, Bool.or_eq_true, Bool.and_eq_true, decide_eq_true_eq, beq_iff_eq] at h
    simp only [ltCps, Bool.or_eq_false_iff, decide_eq_false_iff_not, Bool.and_eq_false_iff, beq_eq_false_iff_ne]
    rcases h with h | ⟨e, h⟩
    · exact ⟨by omega, .inl (by omega)⟩
    · exact ⟨by omega, .inr (lt_asym h)⟩
theorem can_all (l : List Str) : CanS l := by
  refine ⟨l.mergeSort (fun a b => !ltCps (tl b) (tl a)), List.mergeSort_perm l _, sortedS_of_pairwise _ ?_⟩
  refine (List.pairwise_mergeSort (le := fun a b => !ltCps (tl b) (tl a)) (fun a b c h1 h2 => ?_) (fun a b => ?_) l).imp fun {a b} h => by simpa using h
  · simp only [Bool.not_eq_true'] at h1 h2 ⊢
    exact lt_trans' h1 h2
  · cases h : ltCps (tl b) (tl a)
    · rfl
    · rw [lt_asym h]
      rfl
theorem srt_perm (l : List Str) : (srt l).Perm l := (can_all l).p
theorem srt_sorted (l : List Str) : sortedS (srt l) = true := by
  obtain ⟨ys, p, s⟩ := can_all l
  rw [srt_eq p s]
  exact s
theorem ord_perm (t : Bool) (l : List Str) : (ord t l).Perm l := (can_all l).o t
theorem ordF_perm {t : Bool} {c : List CF} (nd : (c.map (·.1)).Nodup) : (ordF t c).Perm c := CanS.f (can_all _) nd t
theorem fm_none {α : Type} {f : α → Option Str} {l : List α} (h : ∀ x ∈ l, f x = none) : l.filterMap f = [] := List.filterMap_eq_nil_iff.mpr h
theorem fm_some {f : Blk → Option Str} {g : Str → Blk} (h : ∀ z, f (g z) = some z) (l : List Str) : (l.map g).filterMap f = l := by
  induction l with
  | nil => rfl
  | cons a l ih => rw [List.map_cons, List.filterMap_cons, h a, ih]
theorem fm_no {f : Blk → Option Str} {g : Str → Blk} (h : ∀ z, f (g z) = none) (l : List Str) : (l.map g).filterMap f = [] := fm_none fun x m => by
  obtain ⟨z, _, rfl⟩ := List.mem_map.mp m
  exact h z
theorem canB_good {ks : List KRow} {fs : List FRow} {us : List URow} {root : Str} (ok : SchOk ks fs us root) (t : Bool) : GoodB ks fs us root (canB t ks fs us root) := by
  have mem : ∀ b, b ∈ canB t ks fs us root → (∃ k ∈ ks, b = .kind k.nm (ord t k.fcs) (ordF t (cfs k.fds))) ∨ (∃ k ∈ fs, b = .face k.nm (ordF t (cfs k.fds))) ∨ (∃ k ∈ us, b = .union k.nm (ord t k.ms)) ∨ b = .root root := by
    intro b m
    rcases List.mem_append.mp m with m | m
    · obtain ⟨z, mz, rfl⟩ := List.mem_map.mp m
      obtain ⟨k, mk, rfl⟩ := List.mem_map.mp ((srt_perm _).mem_iff.mp mz)
      exact .inl ⟨k, mk, by rw [kFc_of ok.ndk mk, kFd_of ok.ndk mk]⟩
    · rcases List.mem_append.mp m with m | m
      · obtain ⟨z, mz, rfl⟩ := List.mem_map.mp m
        obtain ⟨k, mk, rfl⟩ := List.mem_map.mp ((srt_perm _).mem_iff.mp mz)
        exact .inr (.inl ⟨k, mk, by rw [fFd_of ok.ndf mk]⟩)
      · rcases List.mem_append.mp m with m | m
        · obtain ⟨z, mz, rfl⟩ := List.mem_map.mp m
          obtain ⟨k, mk, rfl⟩ := List.mem_map.mp ((srt_perm _).mem_iff.mp mz)
          exact .inr (.inr (.inl ⟨k, mk, by rw [uMs_of ok.ndu mk]⟩))
        · exact .inr (.inr (.inr (List.mem_singleton.mp m)))
  refine ⟨?_, ?_, ?_, ?_, fun n fc fd m => ?_, fun n fd m => ?_, fun n ms m => ?_⟩
  · unfold canB
    rw [List.filterMap_append, List.filterMap_append, List.filterMap_append, fm_some (f := nK) (fun _ => rfl), fm_no (f := nK) (fun _ => rfl), fm_no (f := nK) (fun _ => rfl)]
    show (srt _ ++ ([] ++ ([] ++ []))).Perm _
    rw [List.append_nil, List.append_nil, List.append_nil]
    exact srt_perm _
  · unfold canB
    rw [List.filterMap_append, List.filterMap_append, List.filterMap_append, fm_no (f := nF) (fun _ => rfl), fm_some (f := nF) (fun _ => rfl), fm_no (f := nF) (fun _ => rfl)]
    show ([] ++ (srt _ ++ ([] ++ []))).Perm _
    rw [List.append_nil, List.append_nil, List.nil_append]
    exact srt_perm _
  · unfold canB
    rw [List.filterMap_append, List.filterMap_append, List.filterMap_append, fm_no (f := nU) (fun _ => rfl), fm_no (f := nU) (fun _ => rfl), fm_some (f := nU) (fun _ => rfl)]
    show ([] ++ ([] ++ (srt _ ++ []))).Perm _
    rw [List.append_nil, List.nil_append, List.nil_append]
    exact srt_perm _
  · unfold canB
    rw [List.filterMap_append, List.filterMap_append, List.filterMap_append, fm_no (f := nR) (fun _ => rfl), fm_no (f := nR) (fun _ => rfl), fm_no (f := nR) (fun _ => rfl)]
    rfl
  · rcases mem _ m with ⟨k, mk, e⟩ | ⟨k, mk, e⟩ | ⟨k, mk, e⟩ | e
    · injection e with e1 e2 e3
      exact ⟨k, mk, e1, e2 ▸ ord_perm t _, e3 ▸ ordF_perm (by rw [cfs_names]; exact (ok.kd k mk).nd)⟩
    · cases e
    · cases e
    · cases e
  · rcases mem _ m with ⟨k, mk, e⟩ | ⟨k, mk, e⟩ | ⟨k, mk, e⟩ | e
    · cases e
    · injection e with e1 e2
      exact ⟨k, mk, e1, e2 ▸ ordF_perm (by rw [cfs_names]; exact (ok.fd k mk).nd)⟩
    · cases e
    · cases e
  · rcases mem _ m with ⟨k, mk, e⟩ | ⟨k, mk, e⟩ | ⟨k, mk, e⟩ | e
    · cases e
    · cases e
    · injection e with e1 e2
      exact ⟨k, mk, e1, e2 ▸ ord_perm t _⟩
    · cases e
end NW
namespace NW
open PySem PySem.Spec PyProof.Rows L2
open TL (tl)
open StX (pa_star)
abbrev s_Lin_order : Stmt := topS 65
abbrev N_Lin_order : List Str := ["_law_row", "_law_turned", "_law_found"]
theorem sc_Lin_order : FnScope N_Lin_order ["_law_row", "_law_turned"] (defScope s_Lin_order) := ⟨rfl, rfl, rfl, by decide +kernel, rfl, by decide +kernel, by decide +kernel⟩
abbrev s_Lshape_words : Stmt := topS 61
abbrev N_Lshape_words : List Str := ["_law_shape_here", "_law_words_here", "_law_k"]
theorem sc_Lshape_words : FnScope N_Lshape_words ["_law_shape_here"] (defScope s_Lshape_words) := ⟨rfl, rfl, rfl, by decide +kernel, rfl, by decide +kernel, by decide +kernel⟩
abbrev s_Lfield_lines : Stmt := topS 62
abbrev N_Lfield_lines : List Str := ["_law_table_here", "_law_turned", "_law_lines_here", "_law_field"]
theorem sc_Lfield_lines : FnScope N_Lfield_lines ["_law_table_here", "_law_turned"] (defScope s_Lfield_lines) := ⟨rfl, rfl, rfl, by decide +kernel, rfl, by decide +kernel, by decide +kernel⟩
abbrev s_Llines : Stmt := topS 64
abbrev N_Llines : List Str := ["_law_blocks", "_law_lines_here", "_law_block"]
theorem sc_Llines : FnScope N_Llines ["_law_blocks"] (defScope s_Llines) := ⟨rfl, rfl, rfl, by decide +kernel, rfl, by decide +kernel, by decide +kernel⟩
abbrev s_Lmixed : Stmt := topS 66
abbrev N_Lmixed : List Str := ["_law_box_here", "_law_row", "_law_left", "_law_found", "_law_k"]
theorem sc_Lmixed : FnScope N_Lmixed ["_law_box_here", "_law_row"] (defScope s_Lmixed) := ⟨rfl, rfl, rfl, by decide +kernel, rfl, by decide +kernel, by decide +kernel⟩
/-- one rule or another -/
theorem cr_or {X : Cx} {f : Value} {r1 r2 : List V → Hp → VK → Prop} (h1 : CallR X f r1) (h2 : CallR X f r2) : CallR X f (fun xs H Q => r1 xs H Q ∨ r2 xs H Q) := fun pins s σ H xs us Q I v h => by
  rcases h with h | h
  · exact h1 pins s σ H xs us Q I v h
  · exact h2 pins s σ H xs us Q I v h
/-- sorted of a dict whose keys are texts or of a tuple of texts -/
def rSortAny : List V → Hp → VK → Prop := fun xs H Q => ∃ (a : Addr) (l : List Str), xs = [.ref a] ∧ l.length < 64 ∧ ((∃ kvs, H a = some (.dK kvs) ∧ kvs.map (·.1) = l.map Sum.inr) ∨ H a = some (.tup (l.map V.str))) ∧ ∀ ys p, ys.Perm l → sortedS ys = true → H p = none → Q (.ref p) (upd H p (.lst (ys.map V.str)))
theorem cr_sortAny {X : Cx} (K : PySem.W.Frag) (hc : X.calm = true) (hK : X.K = K := by rfl) : CallR X (.builtin "sorted") rSortAny := fun pins s σ H xs us Q I v h => by
  obtain ⟨a, l, rfl, l64, h, q⟩ := h
  rcases h with ⟨kvs, h, hk⟩ | h
  · exact call_sortedD hc pins s σ H _ us Q I v ⟨a, kvs, l, rfl, .inl h, hk, l64, q⟩
  · exact call_sortedTup K hK pins s σ H _ us Q I v ⟨a, l, rfl, .inl (.inl h), l64, q⟩
theorem ord_false (l : List Str) : ord false l = srt l := rfl
theorem ord_true (l : List Str) : ord true l = (srt l).reverse := rfl
theorem ord_len (t : Bool) (l : List Str) : (ord t l).length = l.length := (ord_perm t l).length_eq
theorem ordF_len (t : Bool) (c : List CF) : (ordF t c).length = c.length := by
  unfold ordF
  rw [List.length_map, ord_len, List.length_map]
theorem ln2 (a n : Str) : (a ++ " ") ++ n = ln [a, n] := by
  refine tl_inj ?_
  unfold ln
  rw [tl_J, TL.tl_append, TL.tl_append, List.append_assoc]
  rfl
def blkT (b : Blk) : List Str := b.lns.map fun l => ln l.ws
/-- lists of texts: the lines of blocks -/
def BlksAt (H : Hp) (p : Addr) (B : List Blk) : Prop := ∃ ps : List (Addr × Blk), H p = some (.lst (ps.map fun x => V.ref x.1)) ∧ (∀ x ∈ ps, H x.1 = some (.lst ((blkT x.2).map V.str))) ∧ ps.map (·.2) = B
theorem blkT_flat (B : List Blk) : (lnsOf B).map (fun l => ln l.ws) = B.flatMap blkT := by
  unfold lnsOf
  rw [List.map_flatMap]
  rfl
theorem shW_pos : ∀ s : Shp, 1 ≤ (shW s).length
  | .base _ => Nat.le_refl _
  | .sure s => by show 1 ≤ (shW s).length + 1; omega
  | .list s => by show 1 ≤ (shW s).length + 1; omega
section
variable {P : Program} {w : World} {K : PySem.W.Frag} {mg : Str → Option Value} {base : Heap}
def spLin_order : Sp := fun vs H Q _ => ∃ (a : Addr) (l : List Str) (t : Bool), vs = [.ref a, .bl t] ∧ l.length < 64 ∧ ((∃ kvs, H a = some (.dK kvs) ∧ kvs.map (·.1) = l.map Sum.inr) ∨ H a = some (.tup (l.map V.str))) ∧
  ∀ p H', Same H H' → H p = none → H' p = some (.lst ((ord t l).map V.str)) → Q (.ref p) H'
theorem ok_Lin_order {f : Addr} {fd : FuncData} (D : Df K mg "_law_in_order" s_Lin_order f fd ["_law_row", "_law_turned"]) (T : Nms mg) : FnOk P w K mg base CX0 1 f fd ["_law_row", "_law_turned"] spLin_order := by
  refine D.F.ok sc_Lin_order (fun vs H Q E h => ?_) (fun cdv A outer s H vs Q E hr h => ?_)
  · obtain ⟨a, l, t, rfl, _⟩ := h
    rfl
  · obtain ⟨a, l, t, rfl, l64, h, q⟩ := h
    refine ⟨_, (pss_cons (ps_set (i := 2) sc_Lin_order.nd rfl (.inl rfl) (pe_callB (cr_sortAny K rfl) (by rfl) T.n_sorted (by decide +kernel) (pa_cons (pv 0) pa_nil)))
      (pss_cons (ps_if (pt_val (pv 1))
       (pss_one (ps_ret (pe_revL (pv 2))))
       pss_nil)
      (pss_one (ps_ret (pv 2))))), ?_⟩
    refine ⟨.ref a, rfl, a, l, rfl, l64, h, fun ys p pm so np => ?_⟩
    have e := srt_eq pm so
    have s1 := same_new (o := .lst (ys.map V.str)) np
    refine ⟨.bl t, rfl, t, rfl, ?_⟩
    cases t with
    | true =>
      refine iteT ⟨.ref p, rfl, p, _, rfl, SqL.of upd_same, fun p2 np2 => q p2 _ (s1.trans (same_new np2)) (s1.free np2) ?_⟩
      rw [upd_same, ord_true, e, List.map_reverse]
    | false =>
      refine iteF ⟨.ref p, rfl, q p _ s1 np ?_⟩
      rw [upd_same, ord_false, e]
def spLshape_words : Sp := fun vs H Q _ => ∃ (v : V) (s : Shp), vs = [v] ∧ ShAt H v s ∧ (shW s).length ≤ 5 ∧ ∀ p H', Same H H' → H p = none → H' p = some (.lst ((shW s).map V.str)) → Q (.ref p) H'
theorem ok_Lshape_words {f : Addr} {fd : FuncData} (D : Df K mg "_law_shape_words" s_Lshape_words f fd ["_law_shape_here"]) (T : Nms mg) : FnOk P w K mg base CX0 1 f fd ["_law_shape_here"] spLshape_words := by
  refine D.F.ok sc_Lshape_words (fun vs H Q E h => ?_) (fun cdv A outer s H vs Q E hr h => ?_)
  · obtain ⟨v, s, rfl, _⟩ := h
    rfl
  · obtain ⟨v, sh, rfl, hv, hl, q⟩ := h
    refine ⟨_, (pss_cons (ps_set (i := 1) sc_Lshape_words.nd rfl (.inl rfl) (pe_lst pa_nil))
      (pss_cons (ps_for PassesOwn.never rfl (pi_range1 (by rfl) T.n_range (pa_cons pe_int pa_nil)) (pg_name (i := 2) sc_Lshape_words.nd rfl (.inl rfl))
       (pss_one (ps_if (pt_not (pt_val (pe_callB call_isi (by rfl) T.n_isinstance (by decide +kernel) (pa_cons (pv 0) (pa_cons (pe_bltn (v := .ty "str") (by rfl) T.n_str (by decide +kernel) rfl) pa_nil)))))
         (pss_cons (ps_expr (pe_bm PySem.F.plainAttrs_list PySem.F.slot_list_append PySem.F.type_list_append mt_append (pv 1) (pa_cons (pe_ix ix_tup (pv 0) pe_int (fun _ _ => rfl)) pa_nil)))
          (pss_one (ps_set (i := 0) sc_Lshape_words.nd rfl (.inl rfl) (pe_ix ix_tup (pv 0) pe_int (fun _ _ => rfl)))))
         pss_nil)))
      (pss_one (ps_ret (pe_op op_cat (pv 1) (pe_lst (pa_cons (pv 0) pa_nil))))))), ?_⟩
    have hS : ∀ n : Nat, n ≤ 1000 → n ≤ sizeLine := fun n h => Nat.le_trans h (by decide)
    refine ⟨hS 0 (by decide), fun p np => ?_⟩
    have s0 := same_new (o := .lst []) np
    have e0 : (upd H p (.lst [])) p = some (.lst []) := upd_same
    generalize upd H p (.lst []) = H0 at s0 e0
    refine ⟨_, rfl, by decide, by decide, for_range (lo := 0) (n := 4) (fun i σ H' => ∃ (v' : V) (s' : Shp) (acc : List Str) (y2 : Option V), σ = [some v', some (.ref p), y2] ∧ ShAt H' v' s' ∧ acc ++ shW s' = shW sh ∧ (shW s').length + i ≤ 5 ∧ L2.Same H H' ∧ H' p = some (.lst (acc.map V.str))) ?_ ?_ ?_⟩
    · exact ⟨v, sh, [], none, rfl, hv.same s0, rfl, hl, s0, e0⟩
    · rintro i σ H1 hi ⟨v', s', acc, y2, rfl, hv', ea, hl', s1, e1⟩
      have cs : (∃ z, s' = .base z ∧ v' = .str z) ∨ ∃ a u z s2, H1 a = some (.tup [.str z, u]) ∧ ShAt H1 u s2 ∧ shW s' = z :: shW s2 ∧ v' = .ref a := by
        cases s' with
        | base z => exact .inl ⟨z, rfl, hv'⟩
        | sure s2 =>
          obtain ⟨a, u, rfl, ha, hu⟩ := hv'
          exact .inr ⟨a, u, _, s2, ha, hu, rfl, rfl⟩
        | list s2 =>
          obtain ⟨a, u, rfl, ha, hu⟩ := hv'
          exact .inr ⟨a, u, _, s2, ha, hu, rfl, rfl⟩
      rcases cs with ⟨z, rfl, rfl⟩ | ⟨a, u, z, s2, ha, hu, es, rfl⟩
      · exact ⟨.str z, rfl, _, _, _, _, true, rfl, .ty "str", .base (.str z), kit_ty (by decide +kernel), true, rfl, iteF ⟨_, .base z, acc, _, rfl, rfl, ea, by show 1 + (i + 1) ≤ 5; omega, s1, e1⟩⟩
      · clear hv'
        refine ⟨.ref a, rfl, _, _, _, _, false, rfl, .ty "str", .base (.tup ha), kit_ty (by decide +kernel), false, rfl, iteT ?_⟩
        have hlen : (shW s2).length + 1 = (shW s').length := by rw [es]; rfl
        have hal : acc.length ≤ 5 := by
          have := congrArg List.length ea
          rw [List.length_append] at this
          omega
        have np' : a ≠ p := ne_of ha e1 (by intro z; cases z)
        refine ⟨.ref p, rfl, .inl ⟨rfl, _, SqL.of e1⟩, .ref a, rfl, a, _, 0, _, rfl, rfl, .inl (.inl ha), atI_nat (j := 0) rfl, p, _, _, rfl, rfl, e1, by rw [List.length_map]; exact Nat.lt_of_le_of_lt hal (by decide), ?_⟩
        have s2' : L2.Same H (upd H1 p (.lst (acc.map V.str ++ [V.str z]))) := same_upd s1 np
        have ha2 : (upd H1 p (.lst (acc.map V.str ++ [V.str z]))) a = some (.tup [.str z, u]) := by rw [upd_ne np']; exact ha
        have hu2 : ShAt (upd H1 p (.lst (acc.map V.str ++ [V.str z]))) u s2 := hu.grO (Oth.lst e1) (Gr.box)
        refine ⟨.ref a, rfl, a, _, 1, _, rfl, rfl, .inl (.inl ha2), atI_nat (j := 1) rfl, u, s2, acc ++ [z], _, rfl, hu2, ?_, ?_, s2', ?_⟩
        · rw [List.append_assoc, ← ea, es]
          rfl
        · omega
        · rw [upd_same, List.map_append]
          rfl
    · rintro σ H1 ⟨v', s', acc, y2, rfl, hv', ea, hl', s1, e1⟩
      cases s' with
      | base z =>
        obtain rfl := hv'
        refine ⟨.ref p, rfl, .str z, rfl, hS 1 (by decide), fun p2 np2 => ?_⟩
        have s2 := same_new (o := .lst [V.str z]) np2
        have hal : acc.length ≤ 5 := by
          have := congrArg List.length ea
          rw [List.length_append] at this
          omega
        refine ⟨p, p2, _, [V.str z], rfl, rfl, s2 _ _ e1, upd_same, hS _ (by rw [List.length_map]; show acc.length + 1 ≤ 1000; omega), fun p3 np3 => q p3 _ ((s1.trans s2).trans (same_new np3)) ((s1.trans s2).free np3) ?_⟩
        rw [upd_same, ← ea, List.map_append]
        rfl
      | sure s2 =>
        have : 1 ≤ (shW s2).length := shW_pos s2
        have : (shW s2).length + 1 + 4 ≤ 5 := hl'
        omega
      | list s2 =>
        have : 1 ≤ (shW s2).length := shW_pos s2
        have : (shW s2).length + 1 + 4 ≤ 5 := hl'
        omega

end
end NW
namespace NW
open PySem PySem.Spec PyProof.Rows L2
open TL (tl)
open StX (pa_star)
theorem low_le {ws : List Str} (h : ∀ z ∈ ws, IsName z) : ∀ z ∈ ws, z.length ≤ 8 := fun z m => (h z m).len8
theorem seq_at {n d : Nat} (h : d < n) : seqIndex? (d : Int) n = some d := by
  have := (ixN_seq (n := n) (i := (d : Int)) (j := d) (by unfold ixN; simp [h])).1
  exact this
theorem erase_perm' {α : Type} : ∀ (l : List α) {d : Nat} (h : d < l.length), (l[d] :: l.eraseIdx d).Perm l
  | x :: r, 0, _ => .refl _
  | x :: r, d + 1, h => by
    show (r[d]'(Nat.lt_of_succ_lt_succ h) :: x :: r.eraseIdx d).Perm (x :: r)
    exact (List.Perm.swap _ _ _).trans (List.Perm.cons _ (erase_perm' r _))
theorem erase_map {α β : Type} {f : α → β} : ∀ (l : List α) (d : Nat), (l.map f).eraseIdx d = (l.eraseIdx d).map f
  | [], d => by simp
  | x :: r, 0 => rfl
  | x :: r, d + 1 => by
    show f x :: (r.map f).eraseIdx d = f x :: (r.eraseIdx d).map f
    rw [erase_map r d]
/-- the lines of fields -/
def fLns (c : List CF) : List Str := c.map fun f => ln (Ln.fld f).ws
theorem fds_find {fds : List Fld} {g : Str} (m : g ∈ fds.map (·.1)) : ∃ fl ∈ fds, fl.1 = g := by
  obtain ⟨f, mf, e⟩ := List.mem_map.mp m
  exact ⟨f, mf, e⟩
section
variable {P : Program} {w : World} {K : PySem.W.Frag} {mg : Str → Option Value} {base : Heap}
def spLfield_lines : Sp := fun vs H Q _ => ∃ (d : Addr) (t : Bool) (bs : List Str) (n : Nat) (fds : List Fld), vs = [.ref d, .bl t] ∧ FldAt H d fds ∧ FdsOk bs fds n ∧ n ≤ 5 ∧ (∀ z ∈ bs, IsName z) ∧
  ∀ p H', Same H H' → H p = none → H' p = some (.lst ((fLns (ordF t (cfs fds))).map V.str)) → Q (.ref p) H'
theorem ok_Lfield_lines {f f1 f2 : Addr} {fd fd1 fd2 : FuncData} (D : Df K mg "_law_field_lines" s_Lfield_lines f fd ["_law_table_here", "_law_turned"]) (D_Lin_order : Df K mg "_law_in_order" s_Lin_order f1 fd1 ["_law_row", "_law_turned"])
    (D_Lshape_words : Df K mg "_law_shape_words" s_Lshape_words f2 fd2 ["_law_shape_here"]) (T : Nms mg) : FnOk P w K mg base CX0 2 f fd ["_law_table_here", "_law_turned"] spLfield_lines := by
  have G_Lin_order : FnOk P w K mg base CX0 1 f1 fd1 ["_law_row", "_law_turned"] spLin_order := ok_Lin_order D_Lin_order T
  have G_Lshape_words : FnOk P w K mg base CX0 1 f2 fd2 ["_law_shape_here"] spLshape_words := ok_Lshape_words D_Lshape_words T
  refine D.F.ok sc_Lfield_lines (fun vs H Q E h => ?_) (fun cdv A outer s H vs Q E hr h => ?_)
  · obtain ⟨d, t, bs, n, fds, rfl, _⟩ := h
    rfl
  · obtain ⟨d, t, bs, n, fds, rfl, hd, ok, hn, hb, q⟩ := h
    have hu := hu_of hr
    refine ⟨_, (pss_cons (ps_set (i := 2) sc_Lfield_lines.nd rfl (.inl rfl) (pe_lst pa_nil))
      (pss_cons (ps_for PassesOwn.never rfl (pi_list (pe_call G_Lin_order (hr.mono (by decide)) (by rfl) D_Lin_order.g D_Lin_order.F.kp D_Lin_order.b .nil pass0 (pa_cons (pv 0) (pa_cons (pv 1) pa_nil)))) (pg_name (i := 3) sc_Lfield_lines.nd rfl (.inl rfl))
       (pss_one (ps_expr (pe_bm PySem.F.plainAttrs_list PySem.F.slot_list_append PySem.F.type_list_append mt_append (pv 2) (pa_cons (pe_join pe_str (pe_op op_cat (pe_lst (pa_cons pe_str (pa_cons (pv 3) pa_nil))) (pe_call G_Lshape_words (hr.mono (by decide)) (by rfl) D_Lshape_words.g D_Lshape_words.F.kp D_Lshape_words.b .nil pass0 (pa_cons (pe_dget hu (pv 0) (pv 3) (fun _ _ => rfl)) pa_nil)))) pa_nil)))))
      (pss_one (ps_ret (pv 2))))), ?_⟩
    have hS : ∀ n : Nat, n ≤ 1000 → n ≤ sizeLine := fun n h => Nat.le_trans h (by decide)
    have few := ok.n1
    refine ⟨hS 0 (by decide), fun p np => ?_⟩
    have s0 := same_new (o := .lst []) np
    have e0 : (upd H p (.lst [])) p = some (.lst []) := upd_same
    generalize upd H p (.lst []) = H0 at s0 e0
    refine ⟨.ref d, rfl, .bl t, rfl, d, fds.map (·.1), t, rfl, by rw [List.length_map]; omega, .inl ⟨fkv fds, s0 _ _ hd.at_, fkv_keys fds⟩, fun p1 H1 s1 n1 e1 => ?_⟩
    have hpm := ord_perm t (fds.map (·.1))
    have hlen : (ord t (fds.map (·.1))).length = fds.length := by rw [ord_len, List.length_map]
    have ec : ordF t (cfs fds) = (ord t (fds.map (·.1))).map fun g => (g, shOf (cfs fds) g) := by
      unfold ordF
      rw [cfs_names]
    generalize ord t (fds.map (·.1)) = gs at e1 hpm hlen ec
    have s01 := s0.trans s1
    have e01 := s1 _ _ e0
    have ne1 : p1 ≠ p := fun z => by rw [z, e0] at n1; cases n1
    refine ⟨p1, rfl, ⟨_, SqL.of e1⟩, for_list (xs := gs.map V.str) (fun j σ H4 => ∃ y3 : Option V, σ = [some (.ref d), some (.bl t), some (.ref p), y3] ∧ L2.Same H H4 ∧ H4 p1 = some (.lst (gs.map V.str)) ∧ H4 p = some (.lst ((fLns ((gs.take j).map fun g => (g, shOf (cfs fds) g))).map V.str))) ?_ ?_ ?_ ?_⟩
    · exact ⟨_, rfl, s01, e1, e01⟩
    · rintro j σ H4 _ ⟨_, _, _, h, _⟩
      exact SqL.of h
    · rintro j y σ H4 ey ⟨y3, rfl, s4, e14, e4⟩
      obtain ⟨g, eg, rfl⟩ : ∃ g, gs[j]? = some g ∧ V.str g = y := by
        rw [List.getElem?_map] at ey
        cases h : gs[j]? with
        | none => rw [h] at ey; cases ey
        | some g => rw [h] at ey; cases ey; exact ⟨g, rfl, rfl⟩
      obtain ⟨fl, fm, rfl⟩ := fds_find (hpm.mem_iff.mp (List.mem_of_getElem? eg))
      have hv : valV (fkv fds) (Sum.inr fl.1) = some fl.2.1 := valV_map (f := fun f : Fld => f.1) (g := fun f => f.2.1) ok.nd fm
      have hw := shW_ok hb (ok.sh fl fm)
      have hsh : shOf (cfs fds) fl.1 = fl.2.2 := shOf_of (c := cfs fds) (f := (fl.1, fl.2.2)) (by rw [cfs_names]; exact ok.nd) (List.mem_map.mpr ⟨fl, fm, rfl⟩)
      refine ⟨.ref p, rfl, .inl ⟨rfl, _, SqL.of e4⟩, ⟨_, rfl⟩, .str fl.1, rfl, hS 2 (by decide), fun p5 n5 => ?_⟩
      have s5 := same_new (o := .lst [V.str "field", V.str fl.1]) n5
      have e5 : (upd H4 p5 (.lst [V.str "field", V.str fl.1])) p5 = some (.lst [V.str "field", V.str fl.1]) := upd_same
      generalize upd H4 p5 (.lst [V.str "field", V.str fl.1]) = H5 at s5 e5
      have sH5 := s4.trans s5
      refine ⟨.ref d, rfl, .str fl.1, rfl, d, fl.2.1, rfl, .inl ⟨fkv fds, .inr fl.1, .inl (sH5 _ _ hd.at_), rfl, hv.symm⟩, fl.2.1, fl.2.2, rfl, (hd.sh fl fm).same sH5, hw.2, fun p6 H6 s6 n6 e6 => ?_⟩
      refine ⟨p5, p6, _, _, rfl, rfl, s6 _ _ e5, e6, hS _ (by rw [List.length_map]; show 2 + (shW fl.2.2).length ≤ 1000; have := hw.2; omega), fun p7 n7 => ?_⟩
      have s7 := same_new (o := .lst ([V.str "field", V.str fl.1] ++ (shW fl.2.2).map V.str)) n7
      have s47 := (s5.trans s6).trans s7
      have hws : ∀ z ∈ (Ln.fld (fl.1, fl.2.2)).ws, IsName z := fun z m => by
        rcases List.mem_cons.mp m with rfl | m
        · exact nm_field
        · rcases List.mem_cons.mp m with rfl | m
          · exact ok.nm fl fm
          · exact hw.1 z m
      refine ⟨" ", p7, (Ln.fld (fl.1, fl.2.2)).ws, rfl, rfl, .inl (SqL.of upd_same), ln_ok (low_le hws) (show (shW fl.2.2).length + 1 + 1 ≤ 1000 by have := hw.2; omega), ?_⟩
      refine ⟨p, _, _, rfl, rfl, s47 _ _ e4, Nat.lt_of_le_of_lt (show _ ≤ 1000 by unfold fLns; simp; omega) (by decide), _, rfl, same_upd (s4.trans s47) np, ?_, ?_⟩
      · rw [upd_ne ne1]
        exact s47 _ _ e14
      · have et : gs.take (j + 1) = gs.take j ++ [fl.1] := by rw [List.take_add_one, eg]; rfl
        rw [upd_same, et, List.map_append]
        unfold fLns
        rw [List.map_append, List.map_append, List.map_cons, List.map_cons, List.map_cons, hsh]
        rfl
    · rintro σ H4 ⟨y3, rfl, s4, e14, e4⟩
      refine ⟨_, rfl, q p H4 s4 np ?_⟩
      rw [List.length_map, List.take_length, ← ec] at e4
      exact e4
/-- all lines of blocks -/
def spLlines : Sp := fun vs H Q _ => ∃ (p : Addr) (B : List Blk), vs = [.ref p] ∧ BlksAt H p B ∧ B.length ≤ 20 ∧ (B.flatMap blkT).length ≤ 1000 ∧ ∀ p' H', Same H H' → H p' = none → H' p' = some (.lst ((B.flatMap blkT).map V.str)) → Q (.ref p') H'
theorem ok_Llines {f : Addr} {fd : FuncData} (D : Df K mg "_law_lines" s_Llines f fd ["_law_blocks"]) : FnOk P w K mg base CX0 1 f fd ["_law_blocks"] spLlines := by
  refine D.F.ok sc_Llines (fun vs H Q E h => ?_) (fun cdv A outer s H vs Q E hr h => ?_)
  · obtain ⟨p, B, rfl, _⟩ := h
    rfl
  · obtain ⟨pb, B, rfl, ⟨ps, hp, hps, rfl⟩, few, hl, q⟩ := h
    refine ⟨_, (pss_cons (ps_set (i := 1) sc_Llines.nd rfl (.inl rfl) (pe_lst pa_nil))
      (pss_cons (ps_for PassesOwn.never rfl (pi_list (pv 0)) (pg_name (i := 2) sc_Llines.nd rfl (.inl rfl))
       (pss_one (ps_set (i := 1) sc_Llines.nd rfl (.inl rfl) (pe_op op_cat (pv 1) (pv 2)))))
      (pss_one (ps_ret (pv 1))))), ?_⟩
    have hS : ∀ n : Nat, n ≤ 1000 → n ≤ sizeLine := fun n h => Nat.le_trans h (by decide)
    refine ⟨hS 0 (by decide), fun p np => ?_⟩
    have s0 := same_new (o := .lst []) np
    have e0 : (upd H p (.lst [])) p = some (.lst []) := upd_same
    generalize upd H p (.lst []) = H0 at s0 e0
    refine ⟨.ref pb, rfl, pb, rfl, ⟨_, SqL.of (s0 _ _ hp)⟩, for_list (xs := ps.map fun x => V.ref x.1) (fun j σ H4 => ∃ (pl : Addr) (y2 : Option V), σ = [some (.ref pb), some (.ref pl), y2] ∧ L2.Same H H4 ∧ H pl = none ∧ H4 pl = some (.lst ((((ps.take j).map (·.2)).flatMap blkT).map V.str))) ?_ ?_ ?_ ?_⟩
    · exact ⟨p, _, rfl, s0, np, e0⟩
    · rintro j σ H4 _ ⟨_, _, _, s4, _⟩
      exact SqL.of (s4 _ _ hp)
    · rintro j y σ H4 ey ⟨pl, y2, rfl, s4, n4, e4⟩
      obtain ⟨x, ex, rfl⟩ : ∃ x, ps[j]? = some x ∧ V.ref x.1 = y := by
        rw [List.getElem?_map] at ey
        cases h : ps[j]? with
        | none => rw [h] at ey; cases ey
        | some g => rw [h] at ey; cases ey; exact ⟨g, rfl, rfl⟩
      have et : ps.take (j + 1) = ps.take j ++ [x] := by rw [List.take_add_one, ex]; rfl
      have eb : ((ps.take (j + 1)).map (·.2)).flatMap blkT = ((ps.take j).map (·.2)).flatMap blkT ++ blkT x.2 := by rw [et, List.map_append, List.flatMap_append]; simp
      have hle : (((ps.take (j + 1)).map (·.2)).flatMap blkT).length ≤ 1000 := by
        have : (ps.map (·.2)).flatMap blkT = ((ps.take (j + 1)).map (·.2)).flatMap blkT ++ ((ps.drop (j + 1)).map (·.2)).flatMap blkT := by
          rw [← List.flatMap_append, ← List.map_append, List.take_append_drop]
        rw [this, List.length_append] at hl
        omega
      rw [eb, List.length_append] at hle
      refine ⟨.ref pl, rfl, .ref x.1, rfl, pl, x.1, _, _, rfl, rfl, e4, s4 _ _ (hps x (List.mem_of_getElem? ex)), hS _ (by rw [List.length_map, List.length_map]; exact hle), fun p5 n5 => ?_⟩
      refine ⟨p5, _, rfl, s4.trans (same_new n5), s4.free n5, ?_⟩
      rw [upd_same, eb, List.map_append]
    · rintro σ H4 ⟨pl, y2, rfl, s4, n4, e4⟩
      rw [List.length_map, List.take_length] at e4
      exact ⟨_, rfl, q pl H4 s4 n4 e4⟩
/-- in a drawn order -/
def spLmixed : Sp := fun vs H Q _ => ∃ (b r p : Addr) (ps : List (Addr × Blk)), vs = [.ref b, .ref p] ∧ Box H b r ∧ p ≠ b ∧ H p = some (.lst (ps.map fun x => V.ref x.1)) ∧ (∀ x ∈ ps, H x.1 = some (.lst ((blkT x.2).map V.str)) ∧ x.1 ≠ b) ∧ ps.length ≤ 20 ∧
  ∀ p' B' H', B'.Perm (ps.map (·.2)) → Gr b H H' → Box H' b r → BlksAt H' p' B' → Q (.ref p') H'
theorem ok_Lmixed {f f1 : Addr} {fd fd1 : FuncData} (D : Df K mg "_law_mixed" s_Lmixed f fd ["_law_box_here", "_law_row"]) (D_Ldraw : Df K mg "_law_draw" s_Ldraw f1 fd1 ["_law_box_here", "_law_many"]) (T : Nms mg) : FnOk P w K mg base CX0 2 f fd ["_law_box_here", "_law_row"] spLmixed := by
  have G_Ldraw : FnOk P w K mg base CX0 1 f1 fd1 ["_law_box_here", "_law_many"] spLdraw := ok_Ldraw D_Ldraw T
  refine D.F.ok sc_Lmixed (fun vs H Q E h => ?_) (fun cdv A outer s H vs Q E hr h => ?_)
  · obtain ⟨b, r, p, ps, rfl, _⟩ := h
    rfl
  · obtain ⟨b, r, pb, ps, rfl, Bx, nb, hp, hps', few, q⟩ := h
    have hps := fun x m => (hps' x m).1
    have hnb := fun x m => (hps' x m).2
    refine ⟨_, (pss_cons (ps_set (i := 2) sc_Lmixed.nd rfl (.inl rfl) (pe_callTy call_list_of (by rfl) T.n_list (by decide +kernel) (pa_cons (pv 1) pa_nil)))
      (pss_cons (ps_set (i := 3) sc_Lmixed.nd rfl (.inl rfl) (pe_lst pa_nil))
      (pss_cons (ps_for PassesOwn.never rfl (pi_range1 (by rfl) T.n_range (pa_cons (pe_callB call_len_seq (by rfl) T.n_len (by decide +kernel) (pa_cons (pv 1) pa_nil)) pa_nil)) (pg_name (i := 4) sc_Lmixed.nd rfl (.inl rfl))
       (pss_one (ps_expr (pe_bm PySem.F.plainAttrs_list PySem.F.slot_list_append PySem.F.type_list_append mt_append (pv 3) (pa_cons (pe_bm PySem.F.plainAttrs_list PySem.F.slot_list_pop PySem.F.type_list_pop mt_popAt (pv 2) (pa_cons (pe_call G_Ldraw (hr.mono (by decide)) (by rfl) D_Ldraw.g D_Ldraw.F.kp D_Ldraw.b .nil pass0 (pa_cons (pv 0) (pa_cons (pe_callB call_len_seq (by rfl) T.n_len (by decide +kernel) (pa_cons (pv 2) pa_nil)) pa_nil))) pa_nil)) pa_nil)))))
      (pss_one (ps_ret (pv 3)))))), ?_⟩
    have hS : ∀ n : Nat, n ≤ 1000 → n ≤ sizeLine := fun n h => Nat.le_trans h (by decide)
    refine ⟨.ref pb, rfl, pb, _, rfl, .inl (SqL.of hp), fun l nl => ⟨hS 0 (by decide), fun p np => ?_⟩⟩
    have g1 : Gr b H (upd H l (.lst (ps.map fun x => V.ref x.1))) := Gr.new nl
    have g2 : Gr b H (upd (upd H l (.lst (ps.map fun x => V.ref x.1))) p (.lst [])) := g1.trans (Gr.new np)
    have B1 := (Bx.new (o := .lst (ps.map fun x => V.ref x.1)) nl).new (o := .lst []) np
    have lb : l ≠ b := Bx.neb nl
    have lr : l ≠ r := Bx.ner nl
    have pb' : p ≠ b := (Bx.new (o := .lst (ps.map fun x => V.ref x.1)) nl).neb np
    have pr' : p ≠ r := (Bx.new (o := .lst (ps.map fun x => V.ref x.1)) nl).ner np
    have pl : p ≠ l := fun z => by rw [z, upd_same] at np; cases np
    have np0 : H p = none := by rw [upd_ne pl] at np; exact np
    have el : (upd (upd H l (.lst (ps.map fun x => V.ref x.1))) p (.lst [])) l = some (.lst (ps.map fun x => V.ref x.1)) := by rw [upd_ne (fun z => pl z.symm), upd_same]
    have ep : (upd (upd H l (.lst (ps.map fun x => V.ref x.1))) p (.lst [])) p = some (.lst []) := upd_same
    generalize upd (upd H l (.lst (ps.map fun x => V.ref x.1))) p (.lst []) = H1 at g2 B1 el ep
    refine ⟨.ref pb, rfl, pb, _, rfl, .inl (SqL.of (g2 _ _ nb hp)), ?_⟩
    refine ⟨_, rfl, by rw [List.length_map]; omega, by rw [List.length_map]; omega, ?_⟩
    refine for_range (lo := 0) (n := (((ps.map fun x => V.ref x.1).length : Nat) : Int).toNat) (fun i σ H' => ∃ (ls fs : List (Addr × Blk)) (y4 : Option V), σ = [some (.ref b), some (.ref pb), some (.ref l), some (.ref p), y4] ∧ (fs ++ ls).Perm ps ∧ ls.length + i = ps.length ∧ Gr b H H' ∧ Box H' b r ∧ H' l = some (.lst (ls.map fun x => V.ref x.1)) ∧ H' p = some (.lst (fs.map fun x => V.ref x.1))) ?_ ?_ ?_
    · exact ⟨ps, [], none, rfl, .refl _, rfl, g2, B1, el, ep⟩
    · rintro i σ H2 hi ⟨ls, fs, y4, rfl, pm, hln, g3, B3, e3, e4⟩
      rw [Int.toNat_natCast, List.length_map] at hi
      refine ⟨.ref p, rfl, .inl ⟨rfl, _, SqL.of e4⟩, .ref l, rfl, .inl ⟨rfl, _, SqL.of e3⟩, .ref b, rfl, .ref l, rfl, l, _, rfl, .inl (SqL.of e3), b, r, (ls.length : Int), ?_, B3, by omega, by omega, fun d H5 d0 d1 g5 B5 => ?_⟩
      · show [V.ref b, V.int ((ls.map fun x => V.ref x.1).length : Int)] = _
        rw [List.length_map]
      obtain ⟨d, rfl⟩ := Int.eq_ofNat_of_zero_le d0
      have hd : d < ls.length := by omega
      have e35 := g5 _ _ lb e3
      have e45 := g5 _ _ pb' e4
      refine ⟨l, _, d, d, .ref ls[d].1, rfl, rfl, e35, by omega, by omega, ?_, by rw [List.getElem?_map, List.getElem?_eq_getElem hd]; rfl, ?_⟩
      · rw [List.length_map]
        exact seq_at hd
      have e6 : (upd H5 l (.lst ((ls.map fun x => V.ref x.1).eraseIdx d))) p = some (.lst (fs.map fun x => V.ref x.1)) := by rw [upd_ne pl]; exact e45
      have fl : fs.length ≤ 20 := by
        have := pm.length_eq
        rw [List.length_append] at this
        omega
      refine ⟨p, _, _, rfl, rfl, e6, Nat.lt_of_le_of_lt (show _ ≤ 1000 by rw [List.length_map]; omega) (by decide), ls.eraseIdx d, fs ++ [ls[d]], _, rfl, ?_, ?_, ?_, ?_, ?_, ?_⟩
      · refine List.Perm.trans ?_ pm
        rw [List.append_assoc]
        exact List.Perm.append_left _ (erase_perm' ls hd)
      · rw [List.length_eraseIdx_of_lt hd]
        omega
      · exact ((g3.trans g5).upd nl).upd np0
      · exact (B5.upd lb lr).upd pb' pr'
      · rw [upd_ne (fun z => pl z.symm), upd_same, erase_map]
      · rw [upd_same, List.map_append]
        rfl
    · rintro σ H2 ⟨ls, fs, y4, rfl, pm, hln, g3, B3, e3, e4⟩
      rw [Int.toNat_natCast, List.length_map] at hln
      have : ls = [] := List.eq_nil_of_length_eq_zero (by omega)
      subst this
      rw [List.append_nil] at pm
      refine ⟨_, rfl, q p (fs.map (·.2)) H2 (pm.map _) g3 B3 ⟨fs, e4, fun x m => ?_, rfl⟩⟩
      have := pm.mem_iff.mp m
      exact g3 _ _ (hnb x this) (hps x this)
end
end NW
namespace NW
open PySem PySem.Spec PyProof.Rows L2
open TL (tl)
open StX (pa_star)
abbrev s_Lschema_blocks : Stmt := topS 63
abbrev N_Lschema_blocks : List Str := ["_law_schema_here", "_law_turned", "_law_blocks", "_law_kind_here", "_law_words_here", "_law_face", "_law_union"]
theorem sc_Lschema_blocks : FnScope N_Lschema_blocks ["_law_schema_here", "_law_turned"] (defScope s_Lschema_blocks) := ⟨rfl, rfl, rfl, by decide +kernel, rfl, by decide +kernel, by decide +kernel⟩
theorem strs_at {l : List Str} {j : Nat} {y : V} (h : (l.map V.str)[j]? = some y) : ∃ z, l[j]? = some z ∧ V.str z = y := by
  rw [List.getElem?_map] at h
  cases e : l[j]? with
  | none => rw [e] at h; cases h
  | some z => rw [e] at h; cases h; exact ⟨z, rfl, rfl⟩
theorem take_succ {α : Type} {l : List α} {j : Nat} {z : α} (e : l[j]? = some z) : l.take (j + 1) = l.take j ++ [z] := by rw [List.take_add_one, e]; rfl
def Bk (H0 H : Hp) (p : Addr) (ps : List (Addr × Blk)) : Prop := H p = some (.lst (ps.map fun x => V.ref x.1)) ∧ ∀ x ∈ ps, H x.1 = some (.lst ((blkT x.2).map V.str)) ∧ x.1 ≠ p ∧ H0 x.1 = none
theorem Bk.same {H0 H H' : Hp} {p : Addr} {ps : List (Addr × Blk)} (h : Bk H0 H p ps) (s : Same H H') : Bk H0 H' p ps := ⟨s _ _ h.1, fun x m => ⟨s _ _ (h.2 x m).1, (h.2 x m).2⟩⟩
theorem Bk.push {H0 H1 H2 : Hp} {p a : Addr} {ps : List (Addr × Blk)} {b : Blk} (h : Bk H0 H1 p ps) (s0 : Same H0 H1) (s : Same H1 H2) (np : H0 p = none) (ha : H2 a = some (.lst ((blkT b).map V.str))) (na : H1 a = none) :
    Same H0 (upd H2 p (.lst ((ps.map fun x => V.ref x.1) ++ [V.ref a]))) ∧ Bk H0 (upd H2 p (.lst ((ps.map fun x => V.ref x.1) ++ [V.ref a]))) p (ps ++ [(a, b)]) := by
  have ne : a ≠ p := fun z => by rw [z, h.1] at na; cases na
  refine ⟨same_upd (s0.trans s) np, ?_, fun x m => ?_⟩
  · rw [upd_same, List.map_append]
    rfl
  · rcases List.mem_append.mp m with m | m
    · obtain ⟨h1, h2, h3⟩ := h.2 x m
      exact ⟨by rw [upd_ne h2]; exact s _ _ h1, h2, h3⟩
    · rw [List.mem_singleton.mp m]
      exact ⟨by rw [upd_ne ne]; exact ha, ne, s0.free na⟩
theorem blkT_kind (n : Str) (fc : List Str) (fd : List CF) : blkT (.kind n fc fd) = ln (Ln.kind n fc).ws :: fLns fd := by
  show ln (Ln.kind n fc).ws :: (fd.map Ln.fld).map (fun l => ln l.ws) = _
  rw [List.map_map]
  rfl
theorem blkT_face (n : Str) (fd : List CF) : blkT (.face n fd) = ln (Ln.face n).ws :: fLns fd := by
  show ln (Ln.face n).ws :: (fd.map Ln.fld).map (fun l => ln l.ws) = _
  rw [List.map_map]
  rfl
theorem face_sp : ("face " : Str) = ("face" : Str) ++ " " := by decide +kernel
theorem root_sp : ("root " : Str) = ("root" : Str) ++ " " := by decide +kernel
section
variable {P : Program} {w : World} {K : PySem.W.Frag} {mg : Str → Option Value} {base : Heap}
def spLschema_blocks : Sp := fun vs H Q _ => ∃ (q kt ft ut : Addr) (ks : List KRow) (fs : List FRow) (us : List URow) (root : Str) (t : Bool), vs = [.ref q, .bl t] ∧ SchT H q kt ft ut ks fs us root ∧
  ∀ p ps H', Same H H' → H p = none → Bk H H' p ps → ps.map (·.2) = canB t ks fs us root → Q (.ref p) H'
theorem ok_Lschema_blocks {f f1 f2 : Addr} {fd fd1 fd2 : FuncData} (D : Df K mg "_law_schema_blocks" s_Lschema_blocks f fd ["_law_schema_here", "_law_turned"])
    (D_Lin_order : Df K mg "_law_in_order" s_Lin_order f1 fd1 ["_law_row", "_law_turned"]) (G_Lin_order : FnOk P w K mg base CX0 1 f1 fd1 ["_law_row", "_law_turned"] spLin_order)
    (D_Lfield_lines : Df K mg "_law_field_lines" s_Lfield_lines f2 fd2 ["_law_table_here", "_law_turned"]) (G_Lfield_lines : FnOk P w K mg base CX0 2 f2 fd2 ["_law_table_here", "_law_turned"] spLfield_lines) (T : Nms mg) :
    FnOk P w K mg base CX0 3 f fd ["_law_schema_here", "_law_turned"] spLschema_blocks := by
  refine D.F.ok sc_Lschema_blocks (fun vs H Q E h => ?_) (fun cdv A outer s H vs Q E hr h => ?_)
  · obtain ⟨q, kt, ft, ut, ks, fs, us, root, t, rfl, _⟩ := h
    rfl
  · obtain ⟨q, kt, ft, ut, ks, fs, us, root, t, rfl, ⟨hq, S, ok⟩, qq⟩ := h
    have hu := hu_of hr
    refine ⟨_, (pss_cons (ps_set (i := 2) sc_Lschema_blocks.nd rfl (.inl rfl) (pe_lst pa_nil))
      (pss_cons (ps_for PassesOwn.never rfl (pi_list (pe_callB (call_sortedD rfl) (by rfl) T.n_sorted (by decide +kernel) (pa_cons (pe_ix ix_tup (pv 0) pe_int (fun _ _ => rfl)) pa_nil))) (pg_name (i := 3) sc_Lschema_blocks.nd rfl (.inl rfl))
       (pss_cons (ps_set (i := 4) sc_Lschema_blocks.nd rfl (.inl rfl) (pe_op op_cat (pe_lst (pa_cons pe_str (pa_cons (pv 3) pa_nil))) (pe_call G_Lin_order (hr.mono (by decide)) (by rfl) D_Lin_order.g D_Lin_order.F.kp D_Lin_order.b .nil pass0 (pa_cons (pe_ix ix_tup (pe_dget hu (pe_ix ix_tup (pv 0) pe_int (fun _ _ => rfl)) (pv 3) (fun _ _ => rfl)) pe_int (fun _ _ => rfl)) (pa_cons (pv 1) pa_nil)))))
        (pss_one (ps_expr (pe_bm PySem.F.plainAttrs_list PySem.F.slot_list_append PySem.F.type_list_append mt_append (pv 2) (pa_cons (pe_op op_cat (pe_lst (pa_cons (pe_join pe_str (pv 4)) pa_nil)) (pe_call G_Lfield_lines (hr.mono (by decide)) (by rfl) D_Lfield_lines.g D_Lfield_lines.F.kp D_Lfield_lines.b .nil pass0 (pa_cons (pe_ix ix_tup (pe_dget hu (pe_ix ix_tup (pv 0) pe_int (fun _ _ => rfl)) (pv 3) (fun _ _ => rfl)) pe_int (fun _ _ => rfl)) (pa_cons (pv 1) pa_nil)))) pa_nil))))))
      (pss_cons (ps_for PassesOwn.never rfl (pi_list (pe_callB (call_sortedD rfl) (by rfl) T.n_sorted (by decide +kernel) (pa_cons (pe_ix ix_tup (pv 0) pe_int (fun _ _ => rfl)) pa_nil))) (pg_name (i := 5) sc_Lschema_blocks.nd rfl (.inl rfl))
       (pss_one (ps_expr (pe_bm PySem.F.plainAttrs_list PySem.F.slot_list_append PySem.F.type_list_append mt_append (pv 2) (pa_cons (pe_op op_cat (pe_lst (pa_cons (pe_op op_add_str pe_str (pv 5)) pa_nil)) (pe_call G_Lfield_lines (hr.mono (by decide)) (by rfl) D_Lfield_lines.g D_Lfield_lines.F.kp D_Lfield_lines.b .nil pass0 (pa_cons (pe_dget hu (pe_ix ix_tup (pv 0) pe_int (fun _ _ => rfl)) (pv 5) (fun _ _ => rfl)) (pa_cons (pv 1) pa_nil)))) pa_nil)))))
      (pss_cons (ps_for PassesOwn.never rfl (pi_list (pe_callB (call_sortedD rfl) (by rfl) T.n_sorted (by decide +kernel) (pa_cons (pe_ix ix_tup (pv 0) pe_int (fun _ _ => rfl)) pa_nil))) (pg_name (i := 6) sc_Lschema_blocks.nd rfl (.inl rfl))
       (pss_one (ps_expr (pe_bm PySem.F.plainAttrs_list PySem.F.slot_list_append PySem.F.type_list_append mt_append (pv 2) (pa_cons (pe_lst (pa_cons (pe_join pe_str (pe_op op_cat (pe_lst (pa_cons pe_str (pa_cons (pv 6) pa_nil))) (pe_call G_Lin_order (hr.mono (by decide)) (by rfl) D_Lin_order.g D_Lin_order.F.kp D_Lin_order.b .nil pass0 (pa_cons (pe_dget hu (pe_ix ix_tup (pv 0) pe_int (fun _ _ => rfl)) (pv 6) (fun _ _ => rfl)) (pa_cons (pv 1) pa_nil))))) pa_nil)) pa_nil)))))
      (pss_cons (ps_expr (pe_bm PySem.F.plainAttrs_list PySem.F.slot_list_append PySem.F.type_list_append mt_append (pv 2) (pa_cons (pe_lst (pa_cons (pe_op op_add_str pe_str (pe_ix ix_tup (pv 0) pe_int (fun _ _ => rfl))) pa_nil)) pa_nil)))
      (pss_one (ps_ret (pv 2)))))))), ?_⟩
    have hS : ∀ n : Nat, n ≤ 1000 → n ≤ sizeLine := fun n h => Nat.le_trans h (by decide)
    have lt : ∀ n : Nat, n ≤ 1000 → n < sizeLine := fun n h => Nat.lt_of_le_of_lt h (by decide)
    have k1 := ok.k1
    have f1' := ok.f1
    have u1 := ok.u1
    have hb := ok.names
    have hT : ∀ {H2 : Hp}, Same H H2 → SqT K H2 q [.ref kt, .ref ft, .ref ut, .str root] := fun s => .inl (.inl (s _ _ hq))
    refine ⟨hS 0 (by decide), fun p np => ?_⟩
    have s0 := same_new (o := .lst []) np
    have e0 : Bk H (upd H p (.lst [])) p [] := ⟨upd_same, fun x m => nomatch m⟩
    generalize upd H p (.lst []) = H0 at s0 e0
    -- the kinds
    refine ⟨.ref q, rfl, q, _, 0, _, rfl, rfl, hT s0, atI_nat (j := 0) rfl, kt, kkv ks, _, rfl, .inl (s0 _ _ S.kd), kkv_keys _, (by rw [List.length_map]; omega), fun ys1 p1 pm1 so1 n1 => ?_⟩
    have t1 := same_new (o := .lst (ys1.map V.str)) n1
    have e1 : (upd H0 p1 (.lst (ys1.map V.str))) p1 = some (.lst (ys1.map V.str)) := upd_same
    have b1 := e0.same t1
    have s1 := s0.trans t1
    generalize upd H0 p1 (.lst (ys1.map V.str)) = H1 at t1 e1 b1 s1
    have ne1 : p1 ≠ p := fun z => by rw [z, e0.1] at n1; cases n1
    have v1 := srt_eq pm1 so1
    refine ⟨p1, rfl, ⟨_, SqL.of e1⟩, for_list (xs := ys1.map V.str) (fun j σ H4 => ∃ (ps : List (Addr × Blk)) (y3 y4 : Option V), σ = [some (.ref q), some (.bl t), some (.ref p), y3, y4, none, none] ∧ Same H H4 ∧ H4 p1 = some (.lst (ys1.map V.str)) ∧ Bk H H4 p ps ∧ ps.map (·.2) = (ys1.take j).map (fun z => .kind z (ord t (kFc ks z)) (ordF t (kFd ks z)))) ?_ ?_ ?_ ?_⟩
    · exact ⟨[], _, _, rfl, s1, e1, b1, rfl⟩
    · rintro j σ H4 _ ⟨_, _, _, _, _, h, _⟩
      exact SqL.of h
    · rintro j y σ H4 ey ⟨ps, y3, y4, rfl, s4, e14, b4, ep⟩
      obtain ⟨z, ez, rfl⟩ := strs_at ey
      obtain ⟨r, mr, rfl⟩ := List.mem_map.mp (pm1.mem_iff.mp (List.mem_of_getElem? ez))
      have hr' := S.ka r mr
      obtain ⟨c1, c2, c3⟩ := ok.kf r mr
      have hfc : ∀ z ∈ ord t r.fcs, IsName z := fun z m => by
        obtain ⟨f, mf, rfl⟩ := List.mem_map.mp (c2 z ((ord_perm t _).mem_iff.mp m))
        exact ok.nf f mf
      refine ⟨.str r.nm, rfl, hS 2 (by decide), fun p5 n5 => ?_⟩
      have t5 := same_new (o := .lst [V.str "kind", V.str r.nm]) n5
      have e5 : (upd H4 p5 (.lst [V.str "kind", V.str r.nm])) p5 = some (.lst [V.str "kind", V.str r.nm]) := upd_same
      generalize upd H4 p5 (.lst [V.str "kind", V.str r.nm]) = H5 at t5 e5
      have s5 := s4.trans t5
      refine ⟨.ref q, rfl, q, _, 0, _, rfl, rfl, hT s5, atI_nat (j := 0) rfl, .str r.nm, rfl, kt, _, rfl, .inl ⟨kkv ks, .inr r.nm, .inl (s5 _ _ S.kd), rfl, (kkv_val ok.ndk mr).symm⟩, r.t, _, 0, _, rfl, rfl, .inl (.inl (s5 _ _ hr'.t)), atI_nat (j := 0) rfl, .bl t, rfl, r.fa, r.fcs, t, rfl, by omega, .inr (s5 _ _ hr'.f), fun p6 H6 t6 n6 e6 => ?_⟩
      refine ⟨p5, p6, _, _, rfl, rfl, t6 _ _ e5, e6, hS _ (by rw [List.length_map, ord_len]; show 2 + r.fcs.length ≤ 1000; omega), fun p7 n7 => ?_⟩
      have t7 := same_new (o := .lst ([V.str "kind", V.str r.nm] ++ (ord t r.fcs).map V.str)) n7
      have e7 : (upd H6 p7 (.lst ([V.str "kind", V.str r.nm] ++ (ord t r.fcs).map V.str))) p7 = some (.lst (((Ln.kind r.nm (ord t r.fcs)).ws).map V.str)) := upd_same
      generalize upd H6 p7 (.lst ([V.str "kind", V.str r.nm] ++ (ord t r.fcs).map V.str)) = H7 at t7 e7
      have t47 := (t5.trans t6).trans t7
      have b7 := b4.same t47
      have hws : ∀ z ∈ (Ln.kind r.nm (ord t r.fcs)).ws, IsName z := fun z m => by
        rcases List.mem_cons.mp m with rfl | m
        · exact nm_kind
        · rcases List.mem_cons.mp m with rfl | m
          · exact ok.nk r mr
          · exact hfc z m
      refine ⟨.ref p, rfl, .inl ⟨rfl, _, SqL.of b7.1⟩, ⟨_, rfl⟩, .ref p7, rfl, " ", p7, (Ln.kind r.nm (ord t r.fcs)).ws, rfl, rfl, .inl (SqL.of e7), ln_ok (low_le hws) (show (ord t r.fcs).length + 1 + 1 ≤ 1000 by rw [ord_len]; omega), hS 1 (by decide), fun p8 n8 => ?_⟩
      have t8 := same_new (o := .lst [V.str (Txt.join " " (Ln.kind r.nm (ord t r.fcs)).ws)]) n8
      have e8 : (upd H7 p8 (.lst [V.str (Txt.join " " (Ln.kind r.nm (ord t r.fcs)).ws)])) p8 = some (.lst [V.str (ln (Ln.kind r.nm (ord t r.fcs)).ws)]) := upd_same
      generalize upd H7 p8 (.lst [V.str (Txt.join " " (Ln.kind r.nm (ord t r.fcs)).ws)]) = H8 at t8 e8
      have t48 := t47.trans t8
      have s8 := s4.trans t48
      refine ⟨.ref q, rfl, q, _, 0, _, rfl, rfl, hT s8, atI_nat (j := 0) rfl, .str r.nm, rfl, kt, _, rfl, .inl ⟨kkv ks, .inr r.nm, .inl (s8 _ _ S.kd), rfl, (kkv_val ok.ndk mr).symm⟩, r.t, _, 1, _, rfl, rfl, .inl (.inl (s8 _ _ hr'.t)), atI_nat (j := 1) rfl, .bl t, rfl, r.da, t, _, 5, r.fds, rfl, hr'.d.same s8, ok.kd r mr, Nat.le_refl _, hb, fun p9 H9 t9 n9 e9 => ?_⟩
      refine ⟨p8, p9, _, _, rfl, rfl, t9 _ _ e8, e9, hS _ (by have := (ok.kd r mr).n1; rw [List.length_map]; unfold fLns; rw [List.length_map, ordF_len]; unfold cfs; rw [List.length_map]; show 1 + r.fds.length ≤ 1000; omega), fun pa na => ?_⟩
      have ta := same_new (o := .lst ([V.str (ln (Ln.kind r.nm (ord t r.fcs)).ws)] ++ (fLns (ordF t (cfs r.fds))).map V.str)) na
      have t4a := (t48.trans t9).trans ta
      have hps : ps.length ≤ 6 := by
        have := congrArg List.length ep
        rw [List.length_map, List.length_map] at this
        have := List.length_take_le j ys1
        have := pm1.length_eq
        rw [List.length_map] at this
        have h6 : (ys1.take j).length ≤ ys1.length := by rw [List.length_take]; omega
        omega
      obtain ⟨r1, r2⟩ := b4.push (b := .kind r.nm (ord t r.fcs) (ordF t (cfs r.fds))) s4 t4a np (by rw [upd_same, blkT_kind]; rfl) ((t48.trans t9).free na)
      refine ⟨p, _, _, rfl, rfl, t4a _ _ b4.1, lt _ (by rw [List.length_map]; omega), _, _, _, rfl, r1, ?_, r2, ?_⟩
      · rw [upd_ne ne1]
        exact t4a _ _ e14
      · rw [List.map_append, ep, take_succ ez, List.map_append, List.map_cons, List.map_nil, List.map_cons, List.map_nil, kFc_of ok.ndk mr, kFd_of ok.ndk mr]
    rintro σ HA ⟨ps1, y3, y4, rfl, sA, _, bA, epA⟩
    rw [List.length_map, List.take_length, ← v1] at epA
    clear e0 s0 b1 t1 e1 s1
    have hp1 : ps1.length ≤ 6 := by
      have := congrArg List.length epA
      rw [List.length_map, List.length_map, (srt_perm _).length_eq, List.length_map] at this
      omega
    -- the faces
    refine ⟨.ref q, rfl, q, _, 1, _, rfl, rfl, hT sA, atI_nat (j := 1) rfl, ft, fkvs fs, _, rfl, .inl (sA _ _ S.fd), fkvs_keys _, (by rw [List.length_map]; omega), fun ys2 p1 pm2 so2 n1 => ?_⟩
    have t1 := same_new (o := .lst (ys2.map V.str)) n1
    have e1 : (upd HA p1 (.lst (ys2.map V.str))) p1 = some (.lst (ys2.map V.str)) := upd_same
    have b1 := bA.same t1
    have s1 := sA.trans t1
    generalize upd HA p1 (.lst (ys2.map V.str)) = H1 at t1 e1 b1 s1
    have ne1 : p1 ≠ p := fun z => by rw [z, bA.1] at n1; cases n1
    have v2 := srt_eq pm2 so2
    refine ⟨p1, rfl, ⟨_, SqL.of e1⟩, for_list (xs := ys2.map V.str) (fun j σ H4 => ∃ (ps : List (Addr × Blk)) (y5 : Option V), σ = [some (.ref q), some (.bl t), some (.ref p), y3, y4, y5, none] ∧ Same H H4 ∧ H4 p1 = some (.lst (ys2.map V.str)) ∧ Bk H H4 p ps ∧ ps.map (·.2) = ps1.map (·.2) ++ (ys2.take j).map (fun z => .face z (ordF t (fFd fs z)))) ?_ ?_ ?_ ?_⟩
    · exact ⟨ps1, _, rfl, s1, e1, b1, (List.append_nil _).symm⟩
    · rintro j σ H4 _ ⟨_, _, _, _, h, _⟩
      exact SqL.of h
    · rintro j y σ H4 ey ⟨ps, y5, rfl, s4, e14, b4, ep⟩
      obtain ⟨z, ez, rfl⟩ := strs_at ey
      obtain ⟨r, mr, rfl⟩ := List.mem_map.mp (pm2.mem_iff.mp (List.mem_of_getElem? ez))
      have hr' := S.fa r mr
      have ew : ("face " : Str) ++ r.nm = ln (Ln.face r.nm).ws := by rw [face_sp]; exact ln2 _ _
      refine ⟨.ref p, rfl, .inl ⟨rfl, _, SqL.of b4.1⟩, .str r.nm, rfl, _, _, rfl, rfl, hS _ (by have := (ok.nf r mr).len8; show ("face " : Str).length + r.nm.length ≤ 1000; rw [show ("face " : Str).length = 5 by decide +kernel]; omega), hS 1 (by decide), fun p8 n8 => ?_⟩
      have t8 := same_new (o := .lst [V.str (("face " : Str) ++ r.nm)]) n8
      have e8 : (upd H4 p8 (.lst [V.str (("face " : Str) ++ r.nm)])) p8 = some (.lst [V.str (ln (Ln.face r.nm).ws)]) := by rw [upd_same, ew]
      generalize upd H4 p8 (.lst [V.str (("face " : Str) ++ r.nm)]) = H8 at t8 e8
      have s8 := s4.trans t8
      refine ⟨.ref q, rfl, q, _, 1, _, rfl, rfl, hT s8, atI_nat (j := 1) rfl, .str r.nm, rfl, ft, _, rfl, .inl ⟨fkvs fs, .inr r.nm, .inl (s8 _ _ S.fd), rfl, (fkvs_val ok.ndf mr).symm⟩, .bl t, rfl, r.da, t, _, 4, r.fds, rfl, hr'.same s8, ok.fd r mr, by decide, hb, fun p9 H9 t9 n9 e9 => ?_⟩
      refine ⟨p8, p9, _, _, rfl, rfl, t9 _ _ e8, e9, hS _ (by have := (ok.fd r mr).n1; rw [List.length_map]; unfold fLns; rw [List.length_map, ordF_len]; unfold cfs; rw [List.length_map]; show 1 + r.fds.length ≤ 1000; omega), fun pa na => ?_⟩
      have ta := same_new (o := .lst ([V.str (ln (Ln.face r.nm).ws)] ++ (fLns (ordF t (cfs r.fds))).map V.str)) na
      have t4a := (t8.trans t9).trans ta
      have hps : ps.length ≤ 20 := by
        have := congrArg List.length ep
        rw [List.length_map, List.length_append, List.length_map, List.length_map] at this
        have := pm2.length_eq
        rw [List.length_map] at this
        have h6 : (ys2.take j).length ≤ ys2.length := by rw [List.length_take]; omega
        omega
      obtain ⟨r1, r2⟩ := b4.push (b := .face r.nm (ordF t (cfs r.fds))) s4 t4a np (by rw [upd_same, blkT_face]; rfl) ((t8.trans t9).free na)
      refine ⟨p, _, _, rfl, rfl, t4a _ _ b4.1, lt _ (by rw [List.length_map]; omega), _, _, rfl, r1, ?_, r2, ?_⟩
      · rw [upd_ne ne1]
        exact t4a _ _ e14
      · rw [List.map_append, ep, take_succ ez, List.map_append, List.map_cons, List.map_nil, List.map_cons, List.map_nil, fFd_of ok.ndf mr, List.append_assoc]
    rintro σ HB ⟨ps2, y5, rfl, sB, _, bB, epB⟩
    rw [List.length_map, List.take_length, ← v2, epA] at epB
    clear b1 t1 e1 s1 ne1 n1
    have hp2 : ps2.length ≤ 9 := by
      have := congrArg List.length epB
      rw [List.length_map, List.length_append, List.length_map, List.length_map, (srt_perm _).length_eq, List.length_map, (srt_perm _).length_eq, List.length_map] at this
      omega
    -- the unions
    refine ⟨.ref q, rfl, q, _, 2, _, rfl, rfl, hT sB, atI_nat (j := 2) rfl, ut, ukv us, _, rfl, .inl (sB _ _ S.ud), ukv_keys _, (by rw [List.length_map]; omega), fun ys3 p1 pm3 so3 n1 => ?_⟩
    have t1 := same_new (o := .lst (ys3.map V.str)) n1
    have e1 : (upd HB p1 (.lst (ys3.map V.str))) p1 = some (.lst (ys3.map V.str)) := upd_same
    have b1 := bB.same t1
    have s1 := sB.trans t1
    generalize upd HB p1 (.lst (ys3.map V.str)) = H1 at t1 e1 b1 s1
    have ne1 : p1 ≠ p := fun z => by rw [z, bB.1] at n1; cases n1
    have v3 := srt_eq pm3 so3
    refine ⟨p1, rfl, ⟨_, SqL.of e1⟩, for_list (xs := ys3.map V.str) (fun j σ H4 => ∃ (ps : List (Addr × Blk)) (y6 : Option V), σ = [some (.ref q), some (.bl t), some (.ref p), y3, y4, y5, y6] ∧ Same H H4 ∧ H4 p1 = some (.lst (ys3.map V.str)) ∧ Bk H H4 p ps ∧ ps.map (·.2) = ps2.map (·.2) ++ (ys3.take j).map (fun z => .union z (ord t (uMs us z)))) ?_ ?_ ?_ ?_⟩
    · exact ⟨ps2, _, rfl, s1, e1, b1, (List.append_nil _).symm⟩
    · rintro j σ H4 _ ⟨_, _, _, _, h, _⟩
      exact SqL.of h
    · rintro j y σ H4 ey ⟨ps, y6, rfl, s4, e14, b4, ep⟩
      obtain ⟨z, ez, rfl⟩ := strs_at ey
      obtain ⟨r, mr, rfl⟩ := List.mem_map.mp (pm3.mem_iff.mp (List.mem_of_getElem? ez))
      have hr' := S.ua r mr
      obtain ⟨c1, c2, c3, c4⟩ := ok.ud r mr
      have hfc : ∀ z ∈ ord t r.ms, IsName z := fun z m => by
        obtain ⟨f, mf, rfl⟩ := List.mem_map.mp (c4 z ((ord_perm t _).mem_iff.mp m))
        exact ok.nk f mf
      refine ⟨.ref p, rfl, .inl ⟨rfl, _, SqL.of b4.1⟩, ⟨_, rfl⟩, .str r.nm, rfl, hS 2 (by decide), fun p5 n5 => ?_⟩
      have t5 := same_new (o := .lst [V.str "union", V.str r.nm]) n5
      have e5 : (upd H4 p5 (.lst [V.str "union", V.str r.nm])) p5 = some (.lst [V.str "union", V.str r.nm]) := upd_same
      generalize upd H4 p5 (.lst [V.str "union", V.str r.nm]) = H5 at t5 e5
      have s5 := s4.trans t5
      refine ⟨.ref q, rfl, q, _, 2, _, rfl, rfl, hT s5, atI_nat (j := 2) rfl, .str r.nm, rfl, ut, _, rfl, .inl ⟨ukv us, .inr r.nm, .inl (s5 _ _ S.ud), rfl, (ukv_val ok.ndu mr).symm⟩, .bl t, rfl, r.t, r.ms, t, rfl, by omega, .inr (s5 _ _ hr'), fun p6 H6 t6 n6 e6 => ?_⟩
      refine ⟨p5, p6, _, _, rfl, rfl, t6 _ _ e5, e6, hS _ (by rw [List.length_map, ord_len]; show 2 + r.ms.length ≤ 1000; omega), fun p7 n7 => ?_⟩
      have t7 := same_new (o := .lst ([V.str "union", V.str r.nm] ++ (ord t r.ms).map V.str)) n7
      have e7 : (upd H6 p7 (.lst ([V.str "union", V.str r.nm] ++ (ord t r.ms).map V.str))) p7 = some (.lst (((Ln.union r.nm (ord t r.ms)).ws).map V.str)) := upd_same
      generalize upd H6 p7 (.lst ([V.str "union", V.str r.nm] ++ (ord t r.ms).map V.str)) = H7 at t7 e7
      have t47 := (t5.trans t6).trans t7
      have hws : ∀ z ∈ (Ln.union r.nm (ord t r.ms)).ws, IsName z := fun z m => by
        rcases List.mem_cons.mp m with rfl | m
        · exact nm_union
        · rcases List.mem_cons.mp m with rfl | m
          · exact ok.nu r mr
          · exact hfc z m
      refine ⟨" ", p7, (Ln.union r.nm (ord t r.ms)).ws, rfl, rfl, .inl (SqL.of e7), ln_ok (low_le hws) (show (ord t r.ms).length + 1 + 1 ≤ 1000 by rw [ord_len]; omega), hS 1 (by decide), fun pa na => ?_⟩
      have ta := same_new (o := .lst [V.str (Txt.join " " (Ln.union r.nm (ord t r.ms)).ws)]) na
      have t4a := t47.trans ta
      have hps : ps.length ≤ 20 := by
        have := congrArg List.length ep
        rw [List.length_map, List.length_append, List.length_map, List.length_map] at this
        have := pm3.length_eq
        rw [List.length_map] at this
        have h6 : (ys3.take j).length ≤ ys3.length := by rw [List.length_take]; omega
        omega
      obtain ⟨r1, r2⟩ := b4.push (b := .union r.nm (ord t r.ms)) s4 t4a np (by rw [upd_same]; rfl) (t47.free na)
      refine ⟨p, _, _, rfl, rfl, t4a _ _ b4.1, lt _ (by rw [List.length_map]; omega), _, _, rfl, r1, ?_, r2, ?_⟩
      · rw [upd_ne ne1]
        exact t4a _ _ e14
      · rw [List.map_append, ep, take_succ ez, List.map_append, List.map_cons, List.map_nil, List.map_cons, List.map_nil, uMs_of ok.ndu mr, List.append_assoc]
    rintro σ HC ⟨ps3, y6, rfl, sC, _, bC, epC⟩
    rw [List.length_map, List.take_length, ← v3, epB] at epC
    have hp3 : ps3.length ≤ 12 := by
      have := congrArg List.length epC
      rw [List.length_map, List.length_append, List.length_append, List.length_map, List.length_map, List.length_map, (srt_perm _).length_eq, List.length_map, (srt_perm _).length_eq, List.length_map, (srt_perm _).length_eq, List.length_map] at this
      omega
    -- the root
    have ew : ("root " : Str) ++ root = ln (Ln.root root).ws := by rw [root_sp]; exact ln2 _ _
    have hrt : IsName root := by
      obtain ⟨f, mf, ef⟩ := List.mem_map.mp ok.rt
      rw [← ef]
      exact ok.nk f mf
    refine ⟨.ref p, rfl, .inl ⟨rfl, _, SqL.of bC.1⟩, .ref q, rfl, q, _, 3, _, rfl, rfl, hT sC, atI_nat (j := 3) rfl, _, _, rfl, rfl, hS _ (by have := hrt.len8; show ("root " : Str).length + root.length ≤ 1000; rw [show ("root " : Str).length = 5 by decide +kernel]; omega), hS 1 (by decide), fun pa na => ?_⟩
    have ta := same_new (o := .lst [V.str (("root " : Str) ++ root)]) na
    obtain ⟨r1, r2⟩ := bC.push (b := .root root) sC ta np (by rw [upd_same, ew]; rfl) na
    refine ⟨p, _, _, rfl, rfl, ta _ _ bC.1, lt _ (by rw [List.length_map]; omega), .ref p, rfl, qq p (ps3 ++ [(pa, .root root)]) _ r1 np r2 ?_⟩
    rw [List.map_append, epC]
    unfold canB
    rw [List.append_assoc, List.append_assoc]
    rfl
end
end NW
namespace NW
open PySem PySem.Spec PyProof.Rows L2
open TL (tl)
open StX (pa_star)
open StX (pa_star)
abbrev s_shape_words : Stmt := topS 41
abbrev N_shape_words : List Str := ["shape"]
theorem sc_shape_words : FnScope N_shape_words ["shape"] (defScope s_shape_words) := ⟨rfl, rfl, rfl, by decide +kernel, rfl, by decide +kernel, by decide +kernel⟩
abbrev s_field_lines : Stmt := topS 40
abbrev N_field_lines : List Str := ["schema", "base", "field"]
theorem sc_field_lines : FnScope N_field_lines ["schema", "base"] (defScope s_field_lines) := ⟨rfl, rfl, rfl, by decide +kernel, rfl, by decide +kernel, by decide +kernel⟩
theorem pa_starK {X : Cx} (K : PySem.W.Frag) {e : Expr} {es : List Expr} {te : TE} {t : TA} {p : Pos} (he : PE X e te) (hr : PA X es t) (hK : X.K = K := by rfl) (hs : starEach (.Starred e p :: es) X.env = (true, eval e X.env) :: starEach es X.env := by rfl) : PA X (.Starred e p :: es) (StX.tStar K te t) := hK ▸ pa_star he hr hs
section
variable {P : Program} {w : World} {K : PySem.W.Frag} {mg : Str → Option Value} {base : Heap}
def sp_shape_words (n : Nat) : Sp := fun vs H Q _ => ∃ (v : V) (s : Shp), vs = [v] ∧ ShAt H v s ∧ (shW s).length ≤ n + 1 ∧ ∀ p H', Same H H' → H p = none → H' p = some (.lst ((shW s).map V.str)) → Q (.ref p) H'
theorem ok_shape_words {f : Addr} {fd : FuncData} (D : Df K mg "shape_words" s_shape_words f fd ["shape"]) (T : Nms mg) : ∀ n : Nat, n ≤ 4 → FnOk P w K mg base CX0 (n + 1) f fd ["shape"] (sp_shape_words n) := by
  intro n hn
  have hS : ∀ n : Nat, n ≤ 1000 → n ≤ sizeLine := fun n h => Nat.le_trans h (by decide)
  induction n with
  | zero =>
    refine D.F.ok sc_shape_words (fun vs H Q E h => ?_) (fun cdv A outer s H vs Q E hr h => ?_)
    · obtain ⟨v, s, rfl, _⟩ := h
      rfl
    · obtain ⟨v, sh, rfl, hv, hl, q⟩ := h
      cases sh with
      | base z =>
        obtain rfl := hv
        refine ⟨_, (pss_cons (ps_if (pt_val (pe_callB call_isi (by rfl) T.n_isinstance (by decide +kernel) (pa_cons (pv 0) (pa_cons (pe_bltn (v := .ty "tuple") (by rfl) T.n_tuple (by decide +kernel) rfl) pa_nil)))) (pss_one ps_never) pss_nil) (pss_one (ps_ret (pe_lst (pa_cons (pv 0) pa_nil))))), ?_⟩
        exact ⟨.str z, rfl, _, _, _, _, false, rfl, .ty "tuple", .base (.str z), kit_ty (by decide +kernel), false, rfl, iteF ⟨.str z, rfl, hS 1 (by decide), fun p np => q p _ (same_new np) np upd_same⟩⟩
      | sure s =>
        have := shW_pos s
        have : (shW s).length + 1 ≤ 0 + 1 := hl
        omega
      | list s =>
        have := shW_pos s
        have : (shW s).length + 1 ≤ 0 + 1 := hl
        omega
  | succ n ih =>
    have G_shape_words := ih (by omega)
    refine D.F.ok sc_shape_words (fun vs H Q E h => ?_) (fun cdv A outer s H vs Q E hr h => ?_)
    · obtain ⟨v, s, rfl, _⟩ := h
      rfl
    · obtain ⟨v, sh, rfl, hv, hl, q⟩ := h
      refine ⟨_, (pss_cons (ps_if (pt_val (pe_callB call_isi (by rfl) T.n_isinstance (by decide +kernel) (pa_cons (pv 0) (pa_cons (pe_bltn (v := .ty "tuple") (by rfl) T.n_tuple (by decide +kernel) rfl) pa_nil))))
         (pss_one (ps_ret (pe_lst (pa_cons (pe_ix ix_tup (pv 0) pe_int (fun _ _ => rfl)) (pa_star (pe_call G_shape_words (hr.mono (by omega)) (by rfl) D.g D.F.kp D.b .nil pass0 (pa_cons (pe_ix ix_tup (pv 0) pe_int (fun _ _ => rfl)) pa_nil)) pa_nil)))))
         pss_nil)
        (pss_one (ps_ret (pe_lst (pa_cons (pv 0) pa_nil))))), ?_⟩
      have cs : (∃ z, sh = .base z ∧ v = .str z) ∨ ∃ a u z s2, H a = some (.tup [.str z, u]) ∧ ShAt H u s2 ∧ shW sh = z :: shW s2 ∧ v = .ref a := by
        cases sh with
        | base z => exact .inl ⟨z, rfl, hv⟩
        | sure s2 =>
          obtain ⟨a, u, rfl, ha, hu⟩ := hv
          exact .inr ⟨a, u, _, s2, ha, hu, rfl, rfl⟩
        | list s2 =>
          obtain ⟨a, u, rfl, ha, hu⟩ := hv
          exact .inr ⟨a, u, _, s2, ha, hu, rfl, rfl⟩
      rcases cs with ⟨z, rfl, rfl⟩ | ⟨a, u, z, s2, ha, hu, es, rfl⟩
      · exact ⟨.str z, rfl, _, _, _, _, false, rfl, .ty "tuple", .base (.str z), kit_ty (by decide +kernel), false, rfl, iteF ⟨.str z, rfl, hS 1 (by decide), fun p np => q p _ (same_new np) np upd_same⟩⟩
      · clear hv
        refine ⟨.ref a, rfl, _, _, _, _, true, rfl, .ty "tuple", .base (.tup ha), kit_ty (by decide +kernel), true, rfl, iteT ?_⟩
        have hl2 : (shW s2).length ≤ n + 1 := by
          rw [es, List.length_cons] at hl
          omega
        refine ⟨.ref a, rfl, a, _, 0, _, rfl, rfl, .inl (.inl ha), atI_nat (j := 0) rfl, .ref a, rfl, a, _, 1, _, rfl, rfl, .inl (.inl ha), atI_nat (j := 1) rfl, u, s2, rfl, hu, hl2, fun p1 H1 s1 n1 e1 => ⟨p1, _, rfl, .inr (SqL.of e1), hS _ (by rw [List.append_nil, List.length_cons, List.length_map]; omega), fun p np => q p _ (s1.trans (same_new np)) (s1.free np) ?_⟩⟩
        rw [upd_same, es, List.append_nil]
        rfl
/-- a list of new lists of words -/
def Wk (H0 H : Hp) (p : Addr) (ps : List (Addr × Ln)) : Prop := H p = some (.lst (ps.map fun x => V.ref x.1)) ∧ ∀ x ∈ ps, H x.1 = some (.lst ((x.2.ws).map V.str)) ∧ x.1 ≠ p ∧ H0 x.1 = none
theorem Wk.same {H0 H H' : Hp} {p : Addr} {ps : List (Addr × Ln)} (h : Wk H0 H p ps) (s : Same H H') : Wk H0 H' p ps := ⟨s _ _ h.1, fun x m => ⟨s _ _ (h.2 x m).1, (h.2 x m).2⟩⟩
theorem Wk.push {H0 H1 H2 : Hp} {p a : Addr} {ps : List (Addr × Ln)} {b : Ln} (h : Wk H0 H1 p ps) (s0 : Same H0 H1) (s : Same H1 H2) (np : H0 p = none) (ha : H2 a = some (.lst ((b.ws).map V.str))) (na : H1 a = none) :
    Same H0 (upd H2 p (.lst ((ps.map fun x => V.ref x.1) ++ [V.ref a]))) ∧ Wk H0 (upd H2 p (.lst ((ps.map fun x => V.ref x.1) ++ [V.ref a]))) p (ps ++ [(a, b)]) := by
  have ne : a ≠ p := fun z => by rw [z, h.1] at na; cases na
  refine ⟨same_upd (s0.trans s) np, ?_, fun x m => ?_⟩
  · rw [upd_same, List.map_append]
    rfl
  · rcases List.mem_append.mp m with m | m
    · obtain ⟨h1, h2, h3⟩ := h.2 x m
      exact ⟨by rw [upd_ne h2]; exact s _ _ h1, h2, h3⟩
    · rw [List.mem_singleton.mp m]
      exact ⟨by rw [upd_ne ne]; exact ha, ne, s0.free na⟩
def sp_field_lines (C : Addr) : Sp := fun vs H Q _ => ∃ (x : Addr) (z : Str) (ks : List KRow) (fs : List FRow) (us : List URow) (root : Str), vs = [.ref x, .str z] ∧ BuiltC C H x ks fs us root ∧ SchOk ks fs us root ∧ z ∈ bsOf ks fs us ∧
  ∀ fds p ps H', FdsOf ks fs z fds → Same H H' → H p = none → Wk H H' p ps → ps.map (·.2) = (ordF false (cfs fds)).map Ln.fld → Q (.ref p) H'
theorem ok_field_lines {f f1 f2 f3 C CN CF : Addr} {fd fd1 fd2 fd3 : FuncData} (D : Df K mg "field_lines" s_field_lines f fd ["schema", "base"])
    (M_fields : Mt K C "fields" "Schema.fields" s_Schema_fields f1 fd1 ["self", "base"]) (G_fields : FnOk P w K mg base (L2N.CX P w) 5 f1 fd1 ["self", "base"] (spFieldsC K C CN))
    (M_shape_of : Mt K C "shape_of" "Schema.shape_of" s_Schema_shape_of f2 fd2 ["self", "base", "field"]) (G_shape_of : FnOk P w K mg base (L2N.CX P w) 5 f2 fd2 ["self", "base", "field"] (spShapeOfC K C CN CF))
    (D_shape_words : Df K mg "shape_words" s_shape_words f3 fd3 ["shape"]) (G_shape_words : FnOk P w K mg base CX0 5 f3 fd3 ["shape"] (sp_shape_words 4))
    (T : Nms mg) (L : ClT K C) : FnOk P w K mg base CX0 6 f fd ["schema", "base"] (sp_field_lines C) := by
  refine D.F.ok sc_field_lines (fun vs H Q E h => ?_) (fun cdv A outer s H vs Q E hr h => ?_)
  · obtain ⟨x, z, ks, fs, us, root, rfl, _⟩ := h
    rfl
  · obtain ⟨x, z, ks, fs, us, root, rfl, Bt, ok, hz, qq⟩ := h
    refine ⟨_, (pss_one (ps_ret (pe_lc (own := [("field", 2)]) (g := (gName 2)) (tt := tYes) rfl sc_field_lines.nd (pi_list (pe_meth (pv 0) L.cl M_fields.m G_fields (hr.mono (by decide)) M_fields.b .nil passA (pa_cons (pv 1) pa_nil))) (blkOk_by (own := [("field", 2)]) (N := N_field_lines) (sc := defScope s_field_lines) (by decide +kernel)) (fun _ _ _ _ _ => (pg_name (i := 2) sc_field_lines.nd rfl (.inl rfl))) (fun _ _ _ _ _ => pts_nil) (fun _ _ _ _ _ => (pe_lst (pa_cons pe_str (pa_cons (pv 2) (pa_starK K (pe_call G_shape_words (hr.mono (by decide)) (by rfl) D_shape_words.g D_shape_words.F.kp D_shape_words.b .nil pass0 (pa_cons (pe_meth (pv 0) L.cl M_shape_of.m G_shape_of (hr.mono (by decide)) M_shape_of.b .nil passA (pa_cons (pv 1) (pa_cons (pv 2) pa_nil))) pa_nil)) pa_nil)))))))), ?_⟩
    have hS : ∀ n : Nat, n ≤ 1000 → n ≤ sizeLine := fun n h => Nat.le_trans h (by decide)
    have lt : ∀ n : Nat, n ≤ 1000 → n < sizeLine := fun n h => Nat.lt_of_le_of_lt h (by decide)
    have insx : ∀ H', Same H H' → ∃ dx kt' ft' ut', H' x = some (.ins C dx (pfs kt' ft' ut' root)) := fun H' s => by
      obtain ⟨_, _, _, _, _, _, dx, kt', ft', ut', _, _, _, hx, _⟩ := Bt
      exact ⟨dx, kt', ft', ut', s _ _ hx⟩
    have s00 : Same H H := fun _ _ e => e
    obtain ⟨dx, kt', ft', ut', hx⟩ := insx H s00
    refine ⟨.ref x, rfl, x, dx, _, rfl, hx, lkn _ _ _ _ (by decide +kernel) (by decide +kernel) (by decide +kernel) (by decide +kernel), .str z, rfl, x, .str z, ks, fs, us, root, rfl, Bt, ok, .inl ⟨z, rfl, hz, fun fds l q1 H1 hf pm so s1 n1 e1 => ?_⟩⟩
    have few := hf.few ok
    have fnd := hf.nd ok
    have hb := ok.names
    have lf : l.length = fds.length := by rw [pm.length_eq, List.length_map]
    refine ⟨q1, rfl, ⟨_, SqL.of e1⟩, fun Da nD => ?_⟩
    have nq : q1 ≠ Da := fun z => by rw [z, nD] at e1; cases e1
    refine lc_it (walk_list (xs := l.map V.str)) (fun i H' => Same H1 H' ∧ ∃ ps, Wk H1 H' Da ps ∧ ps.map (·.2) = ((l.take i).map fun g => (g, shOf (cfs fds) g)).map Ln.fld) ?_ ?_ ?_ ?_
    · exact ⟨same_new nD, [], ⟨upd_same, fun x m => nomatch m⟩, rfl⟩
    · exact fun i H2 _ h => SqL.of (h.1 _ _ e1)
    · rintro i y H2 H3 hi ⟨s2, ps, hw, ep⟩ ⟨rfl, ey⟩
      obtain ⟨g, eg, rfl⟩ := strs_at ey
      obtain ⟨fl, fm, rfl⟩ := fds_find (pm.mem_iff.mp (List.mem_of_getElem? eg))
      have hsh : shOf (cfs fds) fl.1 = fl.2.2 := shOf_of (c := cfs fds) (f := (fl.1, fl.2.2)) (by rw [cfs_names]; exact fnd) (List.mem_map.mpr ⟨fl, fm, rfl⟩)
      have hW := shW_ok hb (hf.ok ok fm)
      obtain ⟨dx, kt', ft', ut', hx⟩ := insx H3 (s1.trans s2)
      refine ⟨rfl, lcT ⟨.str fl.1, rfl, .ref x, rfl, x, dx, _, rfl, hx, lkn _ _ _ _ (by decide +kernel) (by decide +kernel) (by decide +kernel) (by decide +kernel), .str z, rfl, .str fl.1, rfl, x, .str z, .str fl.1, ks, fs, us, root, rfl, Bt.same (s1.trans s2), ok, .inl ⟨z, rfl, hz, fun fds' hf' => ?_⟩⟩⟩
      cases hf.uniq ok hf'
      refine .inl ⟨fl.1, rfl, .inl ⟨fl, fm, rfl, fun v H4 s4 hv => ⟨v, fl.2.2, rfl, hv, hW.2, fun p5 H5 s5 n5 e5 => ?_⟩⟩⟩
      refine ⟨p5, _, rfl, .inr (SqL.of e5), hS _ (by rw [List.append_nil, List.length_cons, List.length_cons, List.length_map]; have := hW.2; omega), fun p6 n6 => ?_⟩
      have s6 := same_new (o := .lst (V.str "field" :: V.str fl.1 :: ((shW fl.2.2).map V.str ++ []))) n6
      have s36 := (s4.trans s5).trans s6
      obtain ⟨r1, r2⟩ := hw.push (b := .fld (fl.1, fl.2.2)) s2 s36 nD (by rw [upd_same, List.append_nil]; rfl) ((s4.trans s5).free n6)
      have hps : ps.length ≤ 20 := by
        have := congrArg List.length ep
        rw [List.length_map, List.length_map, List.length_map, List.length_take] at this
        omega
      refine ⟨_, s36 _ _ hw.1, lt _ (by rw [List.length_map]; omega), r1, ps ++ [(p6, .fld (fl.1, fl.2.2))], r2, ?_⟩
      rw [List.map_append, ep, take_succ eg, List.map_append, List.map_append, List.map_cons, List.map_nil, List.map_cons, List.map_nil, List.map_cons, List.map_nil, hsh]
    · rintro H2 ⟨s2, ps, hw, ep⟩
      rw [List.length_map, List.take_length] at ep
      refine qq fds Da ps H2 hf (s1.trans s2) (s1.free nD) ⟨hw.1, fun x m => ⟨(hw.2 x m).1, (hw.2 x m).2.1, s1.free (hw.2 x m).2.2⟩⟩ ?_
      rw [ep]
      unfold ordF
      rw [cfs_names, ord_false, srt_eq pm so]
end
end NW
namespace NW
open PySem PySem.Spec PyProof.Rows L2
open TL (tl)
open StX (pa_star)
open StX (pa_star)
abbrev s_schema_text : Stmt := topS 39
abbrev N_schema_text : List Str := ["schema", "lines", "kind", "face", "union", "words"]
theorem sc_schema_text : FnScope N_schema_text ["schema"] (defScope s_schema_text) := ⟨rfl, rfl, rfl, by decide +kernel, rfl, by decide +kernel, by decide +kernel⟩
theorem pe_joinK {X : Cx} (K : PySem.W.Frag) {o e : Expr} {to te : TE} {apos pos : Pos} (ho : PE X o to) (he : PE X e te) (hK : X.K = K := by rfl) (hs : starEach [e] X.env = [(false, eval e X.env)] := by rfl) (hbase : attributeBase o "join" X.env (eval o X.env) = eval o X.env := by rfl) (hline : (apos.endLine == pos.line) = true := by rfl) :
    PE X (.Call (.Attribute o "join" apos) [e] [] pos) (tM1 (fun x xs H Q => ∃ a p, ∃ ys : List Str, x = .str a ∧ xs = [.ref p] ∧ (SqL K H p (ys.map V.str) ∨ SqT K H p (ys.map V.str)) ∧
      (ys.map (·.length)).sum + ys.length * a.length ≤ 16777216 ∧ Q (.str (Txt.join a ys)) H) to te) := hK ▸ pe_join ho he hs hbase hline
section
variable {ks : List KRow} {fs : List FRow} {us : List URow} {root : Str}
theorem bs_k {k : KRow} (m : k ∈ ks) : k.nm ∈ bsOf ks fs us := List.mem_append_right _ (List.mem_append_left _ (List.mem_map.mpr ⟨k, m, rfl⟩))
theorem bs_f {k : FRow} (m : k ∈ fs) : k.nm ∈ bsOf ks fs us := List.mem_append_right _ (List.mem_append_right _ (List.mem_append_left _ (List.mem_map.mpr ⟨k, m, rfl⟩)))
theorem bs_u {k : URow} (m : k ∈ us) : k.nm ∈ bsOf ks fs us := List.mem_append_right _ (List.mem_append_right _ (List.mem_append_right _ (List.mem_map.mpr ⟨k, m, rfl⟩)))
theorem mem_face (ok : SchOk ks fs us root) {r : KRow} {f : FRow} {l : List Str} (mr : r ∈ ks) (mf : f ∈ fs) (h : MemL ks us f.nm l) : r.nm ∈ l ↔ f.nm ∈ r.fcs := by
  have hf : f.nm ∈ fs.map (·.nm) := List.mem_map.mpr ⟨f, mf, rfl⟩
  obtain ⟨_, _, ⟨h1, _⟩ | ⟨_, u, mu, eu, _⟩ | ⟨_, _, p⟩⟩ := h
  · exact absurd (List.mem_append_left _ hf) (ok.kfu h1)
  · exact absurd (List.mem_map.mpr ⟨u, mu, eu⟩) (ok.fu hf)
  · rw [p.mem_iff]
    constructor
    · intro m
      obtain ⟨k, mk, e⟩ := List.mem_map.mp m
      obtain ⟨m1, m2⟩ := List.mem_filter.mp mk
      rw [map_uniq ok.ndk mr m1 e.symm]
      exact of_decide_eq_true m2
    · intro m
      exact List.mem_map.mpr ⟨r, List.mem_filter.mpr ⟨mr, decide_eq_true m⟩, rfl⟩
theorem mem_union (ok : SchOk ks fs us root) {r : URow} {l : List Str} (mr : r ∈ us) (h : MemL ks us r.nm l) : l = ord false r.ms := by
  have hu : r.nm ∈ us.map (·.nm) := List.mem_map.mpr ⟨r, mr, rfl⟩
  obtain ⟨so, _, ⟨h1, _⟩ | ⟨_, u, mu, eu, p⟩ | ⟨_, n, _⟩⟩ := h
  · exact absurd (List.mem_append_right _ hu) (ok.kfu h1)
  · rw [map_uniq ok.ndu mr mu eu.symm, ord_false, srt_eq p so]
  · exact absurd hu n
theorem face_list (ok : SchOk ks fs us root) {r : KRow} {ys : List Str} (mr : r ∈ ks) (pm : ys.Perm (fs.map (·.nm))) (so : sortedS ys = true) : ys.filter (fun g => decide (g ∈ r.fcs)) = ord false r.fcs := by
  obtain ⟨c1, c2, c3⟩ := ok.kf r mr
  rw [ord_false]
  refine (srt_eq ?_ ?_).symm
  · have nd : ys.Nodup := pm.nodup_iff.mpr ok.ndf
    refine (List.perm_ext_iff_of_nodup (nd.sublist List.filter_sublist) c1).mpr fun z => ?_
    rw [List.mem_filter]
    exact ⟨fun h => of_decide_eq_true h.2, fun h => ⟨pm.mem_iff.mpr (c2 z h), decide_eq_true h⟩⟩
  · exact sortedS_of_pairwise _ ((sortedS_pw so).sublist List.filter_sublist)
theorem fds_k (ok : SchOk ks fs us root) {r : KRow} {fds : List Fld} (mr : r ∈ ks) (h : FdsOf ks fs r.nm fds) : fds = r.fds := by
  have hm : r.nm ∈ ks.map (·.nm) := List.mem_map.mpr ⟨r, mr, rfl⟩
  rcases h with ⟨k, mk, ek, rfl⟩ | ⟨n, _⟩ | ⟨n, _⟩
  · rw [map_uniq ok.ndk mr mk ek.symm]
  · exact absurd hm n
  · exact absurd hm n
theorem fds_f (ok : SchOk ks fs us root) {r : FRow} {fds : List Fld} (mr : r ∈ fs) (h : FdsOf ks fs r.nm fds) : fds = r.fds := by
  have hm : r.nm ∈ fs.map (·.nm) := List.mem_map.mpr ⟨r, mr, rfl⟩
  rcases h with ⟨k, mk, ek, rfl⟩ | ⟨n, f, mf, ef, rfl⟩ | ⟨_, n, _⟩
  · exact absurd (List.mem_append_left _ hm) (ok.kfu (List.mem_map.mpr ⟨k, mk, ek⟩))
  · rw [map_uniq ok.ndf mr mf ef.symm]
  · exact absurd hm n
end
theorem lnsOf_append (a b : List Blk) : lnsOf (a ++ b) = lnsOf a ++ lnsOf b := List.flatMap_append
theorem lnsOf_one (b : Blk) : lnsOf [b] = b.lns := by unfold lnsOf; simp
theorem Wk.ext {H0 H1 H2 : Hp} {p a : Addr} {ps qs : List (Addr × Ln)} (h : Wk H0 H1 p ps) (s0 : Same H0 H1) (s : Same H1 H2) (np : H0 p = none) (ha : Wk H1 H2 a qs) :
    Same H0 (upd H2 p (.lst ((ps.map fun x => V.ref x.1) ++ (qs.map fun x => V.ref x.1)))) ∧ Wk H0 (upd H2 p (.lst ((ps.map fun x => V.ref x.1) ++ (qs.map fun x => V.ref x.1)))) p (ps ++ qs) := by
  refine ⟨same_upd (s0.trans s) np, ?_, fun x m => ?_⟩
  · rw [upd_same, List.map_append]
  · rcases List.mem_append.mp m with m | m
    · obtain ⟨h1, h2, h3⟩ := h.2 x m
      exact ⟨by rw [upd_ne h2]; exact s _ _ h1, h2, h3⟩
    · obtain ⟨h1, _, h3⟩ := ha.2 x m
      have ne : x.1 ≠ p := fun z => by rw [z, h.1] at h3; cases h3
      exact ⟨by rw [upd_ne ne]; exact h1, ne, s0.free h3⟩
section
variable {P : Program} {w : World} {K : PySem.W.Frag} {mg : Str → Option Value} {base : Heap}
def sp_schema_text (C : Addr) : Sp := fun vs H Q _ => ∃ (x : Addr) (ks : List KRow) (fs : List FRow) (us : List URow) (root : Str), vs = [.ref x] ∧ BuiltC C H x ks fs us root ∧ SchOk ks fs us root ∧
  ∀ H', Same H H' → Q (.str (txtOf (canB false ks fs us root))) H'
theorem ok_schema_text {f f2 f3 f4 f6 f7 C CN : Addr} {fd fd2 fd3 fd4 fd6 fd7 : FuncData} (D : Df K mg "schema_text" s_schema_text f fd ["schema"])
    (M_kinds : Mt K C "kinds" "Schema.kinds" s_Schema_kinds f2 fd2 ["self"]) (G_kinds : FnOk P w K mg base CX0 1 f2 fd2 ["self"] (sp_kindsC C))
    (M_faces : Mt K C "faces" "Schema.faces" s_Schema_faces f3 fd3 ["self"]) (G_faces : FnOk P w K mg base CX0 1 f3 fd3 ["self"] (sp_facesC C))
    (M_unions : Mt K C "unions" "Schema.unions" s_Schema_unions f4 fd4 ["self"]) (G_unions : FnOk P w K mg base CX0 1 f4 fd4 ["self"] (sp_unionsC C))
    (M_members : Mt K C "members" "Schema.members" s_Schema_members f6 fd6 ["self", "base"]) (G_members : FnOk P w K mg base (L2N.CX P w) 4 f6 fd6 ["self", "base"] (spMembersC K C CN))
    (D_field_lines : Df K mg "field_lines" s_field_lines f7 fd7 ["schema", "base"]) (G_field_lines : FnOk P w K mg base CX0 6 f7 fd7 ["schema", "base"] (sp_field_lines C))
    (T : Nms mg) (L : ClT K C) : FnOk P w K mg base CX0 7 f fd ["schema"] (sp_schema_text C) := by
  refine D.F.ok sc_schema_text (fun vs H Q E h => ?_) (fun cdv A outer s H vs Q E hr h => ?_)
  · obtain ⟨x, ks, fs, us, root, rfl, _⟩ := h
    rfl
  · obtain ⟨x, ks, fs, us, root, rfl, Bt, ok, qq⟩ := h
    refine ⟨_, (pss_cons (ps_set (i := 1) sc_schema_text.nd rfl (.inl rfl) (pe_lst pa_nil))
      (pss_cons (ps_for PassesOwn.never rfl (pi_list (pe_meth0 (pv 0) L.cl M_kinds.m G_kinds (hr.mono (by decide)) M_kinds.b .nil pass0)) (pg_name (i := 2) sc_schema_text.nd rfl (.inr rfl))
       (pss_cons (ps_expr (pe_bm PySem.F.plainAttrs_list PySem.F.slot_list_append PySem.F.type_list_append mt_append (pv 1) (pa_cons (pe_lst (pa_cons pe_str (pa_cons (pv 2) (pa_star (pe_lc (own := [("face", 3)]) (g := (gName 3)) rfl sc_schema_text.nd (pi_list (pe_meth0 (pv 0) L.cl M_faces.m G_faces (hr.mono (by decide)) M_faces.b .nil pass0)) (blkOk_by (own := [("face", 3)]) (N := N_schema_text) (sc := defScope s_schema_text) (by decide +kernel)) (fun _ _ _ _ _ => (pg_name (i := 3) sc_schema_text.nd rfl (.inl rfl))) (fun _ _ _ _ _ => pts_one (pt_cmpR (op_in_seqK K) (pv 2) (pe_meth (pv 0) L.cl M_members.m G_members (hr.mono (by decide)) M_members.b .nil passA (pa_cons (pv 3) pa_nil)) (by rfl))) (fun _ _ _ _ _ => (pv 3))) pa_nil)))) pa_nil)))
        (pss_one (ps_expr (pe_bm PySem.F.plainAttrs_list PySem.F.slot_list_extend PySem.F.type_list_extend mt_extend (pv 1) (pa_cons (pe_call G_field_lines (hr.mono (by decide)) (by rfl) D_field_lines.g D_field_lines.F.kp D_field_lines.b .nil pass0 (pa_cons (pv 0) (pa_cons (pv 2) pa_nil))) pa_nil))))))
      (pss_cons (ps_for PassesOwn.never rfl (pi_list (pe_meth0 (pv 0) L.cl M_faces.m G_faces (hr.mono (by decide)) M_faces.b .nil pass0)) (pg_name (i := 3) sc_schema_text.nd rfl (.inl rfl))
       (pss_cons (ps_expr (pe_bm PySem.F.plainAttrs_list PySem.F.slot_list_append PySem.F.type_list_append mt_append (pv 1) (pa_cons (pe_lst (pa_cons pe_str (pa_cons (pv 3) pa_nil))) pa_nil)))
        (pss_one (ps_expr (pe_bm PySem.F.plainAttrs_list PySem.F.slot_list_extend PySem.F.type_list_extend mt_extend (pv 1) (pa_cons (pe_call G_field_lines (hr.mono (by decide)) (by rfl) D_field_lines.g D_field_lines.F.kp D_field_lines.b .nil pass0 (pa_cons (pv 0) (pa_cons (pv 3) pa_nil))) pa_nil))))))
      (pss_cons (ps_for PassesOwn.never rfl (pi_list (pe_meth0 (pv 0) L.cl M_unions.m G_unions (hr.mono (by decide)) M_unions.b .nil pass0)) (pg_name (i := 4) sc_schema_text.nd rfl (.inl rfl))
       (pss_one (ps_expr (pe_bm PySem.F.plainAttrs_list PySem.F.slot_list_append PySem.F.type_list_append mt_append (pv 1) (pa_cons (pe_lst (pa_cons pe_str (pa_cons (pv 4) (pa_star (pe_meth (pv 0) L.cl M_members.m G_members (hr.mono (by decide)) M_members.b .nil passA (pa_cons (pv 4) pa_nil)) pa_nil)))) pa_nil)))))
      (pss_cons (ps_expr (pe_bm PySem.F.plainAttrs_list PySem.F.slot_list_append PySem.F.type_list_append mt_append (pv 1) (pa_cons (pe_lst (pa_cons pe_str (pa_cons (pe_fld (pv 0) rfl) pa_nil))) pa_nil)))
      (pss_one (ps_ret (pe_join pe_str (pe_lc (own := [("words", 5)]) (g := (gName 5)) (tt := tYes) rfl sc_schema_text.nd (pi_list (pv 1)) (blkOk_by (own := [("words", 5)]) (N := N_schema_text) (sc := defScope s_schema_text) (by decide +kernel)) (fun _ _ _ _ _ => (pg_name (i := 5) sc_schema_text.nd rfl (.inl rfl))) (fun _ _ _ _ _ => pts_nil) (fun _ _ _ _ _ => (pe_joinK K pe_str (pv 5)))))))))))), ?_⟩
    have hS : ∀ n : Nat, n ≤ 1000 → n ≤ sizeLine := fun n h => Nat.le_trans h (by decide)
    have lt : ∀ n : Nat, n ≤ 1000 → n < sizeLine := fun n h => Nat.lt_of_le_of_lt h (by decide)
    have k1 := ok.k1
    have f1' := ok.f1
    have u1 := ok.u1
    have insx : ∀ H', Same H H' → ∃ dx kt' ft' ut', H' x = some (.ins C dx (pfs kt' ft' ut' root)) := fun H' s => by
      obtain ⟨_, _, _, _, _, _, dx, kt', ft', ut', _, _, _, hx, _⟩ := Bt
      exact ⟨dx, kt', ft', ut', s _ _ hx⟩
    have good := canB_good ok false
    have gl := good.lines ok
    have cut : canB false ks fs us root = (srt (ks.map (·.nm))).map (fun z => Blk.kind z (ord false (kFc ks z)) (ordF false (kFd ks z))) ++ ((srt (fs.map (·.nm))).map (fun z => Blk.face z (ordF false (fFd fs z))) ++ ((srt (us.map (·.nm))).map (fun z => Blk.union z (ord false (uMs us z))) ++ [.root root])) := rfl
    generalize hB : canB false ks fs us root = BB at good gl cut
    have llen : ∀ {pre suf : List Blk}, BB = pre ++ suf → (lnsOf pre).length ≤ 100 := fun e => by
      have := gl.1
      rw [e, lnsOf_append, List.length_append] at this
      omega
    refine ⟨hS 0 (by decide), fun p np => ?_⟩
    have s0 := same_new (o := .lst []) np
    have e0 : Wk H (upd H p (.lst [])) p [] := ⟨upd_same, fun x m => nomatch m⟩
    generalize upd H p (.lst []) = H0 at s0 e0
    -- the kinds
    obtain ⟨dx, kt', ft', ut', hx⟩ := insx H0 s0
    refine ⟨.ref x, rfl, x, dx, _, rfl, hx, lkn _ _ _ _ (by decide +kernel) (by decide +kernel) (by decide +kernel) (by decide +kernel), x, ks, fs, us, root, rfl, Bt.same s0, k1, f1', u1, fun ys1 p1 H1 pm1 so1 t1 n1 e1 => ?_⟩
    have b1 := e0.same t1
    have s1 := s0.trans t1
    have ne1 : p1 ≠ p := fun z => by rw [z, e0.1] at n1; cases n1
    have v1 := srt_eq pm1 so1
    refine ⟨p1, rfl, ⟨_, SqL.of e1⟩, for_list (xs := ys1.map V.str) (fun j σ H4 => ∃ (ps : List (Addr × Ln)) (y2 : Option V), σ = [some (.ref x), some (.ref p), y2, none, none, none] ∧ Same H H4 ∧ H4 p1 = some (.lst (ys1.map V.str)) ∧ Wk H H4 p ps ∧ ps.map (·.2) = lnsOf ((ys1.take j).map (fun z => Blk.kind z (ord false (kFc ks z)) (ordF false (kFd ks z))))) ?_ ?_ ?_ ?_⟩
    · exact ⟨[], _, rfl, s1, e1, b1, rfl⟩
    · rintro j σ H4 _ ⟨_, _, _, _, h, _⟩
      exact SqL.of h
    · rintro j y σ H4 ey ⟨ps, y2, rfl, s4, e14, b4, ep⟩
      obtain ⟨z, ez, rfl⟩ := strs_at ey
      obtain ⟨r, mr, rfl⟩ := List.mem_map.mp (pm1.mem_iff.mp (List.mem_of_getElem? ez))
      have hl1 : (lnsOf ((ys1.take (j + 1)).map (fun z => Blk.kind z (ord false (kFc ks z)) (ordF false (kFd ks z))))).length ≤ 100 := by
        refine llen (suf := (ys1.drop (j + 1)).map (fun z => Blk.kind z (ord false (kFc ks z)) (ordF false (kFd ks z))) ++ ((srt (fs.map (·.nm))).map (fun z => Blk.face z (ordF false (fFd fs z))) ++ ((srt (us.map (·.nm))).map (fun z => Blk.union z (ord false (uMs us z))) ++ [.root root]))) ?_
        rw [cut, v1]
        conv => lhs; rw [← List.take_append_drop (j + 1) ys1]
        rw [List.map_append, List.append_assoc]
      have enew : lnsOf ((ys1.take (j + 1)).map (fun z => Blk.kind z (ord false (kFc ks z)) (ordF false (kFd ks z)))) = ps.map (·.2) ++ (Ln.kind r.nm (ord false r.fcs) :: (ordF false (cfs r.fds)).map Ln.fld) := by
        rw [take_succ ez, List.map_append, lnsOf_append, ← ep, List.map_cons, List.map_nil, lnsOf_one, kFc_of ok.ndk mr, kFd_of ok.ndk mr]
        rfl
      rw [enew, List.length_append, List.length_map, List.length_cons, List.length_map] at hl1
      obtain ⟨dx, kt', ft', ut', hx⟩ := insx H4 s4
      refine ⟨.ref p, rfl, .inl ⟨rfl, _, SqL.of b4.1⟩, .str r.nm, rfl, .ref x, rfl, x, dx, _, rfl, hx, lkn _ _ _ _ (by decide +kernel) (by decide +kernel) (by decide +kernel) (by decide +kernel), x, ks, fs, us, root, rfl, Bt.same s4, k1, f1', u1, fun ys2 p2 H5 pm2 so2 t5 n5 e5 => ⟨p2, rfl, ⟨_, SqL.of e5⟩, fun Da nD => ?_⟩⟩
      have s5 := s4.trans t5
      have l2 : ys2.length = fs.length := by rw [pm2.length_eq, List.length_map]
      refine lc_it (walk_list (xs := ys2.map V.str)) (fun i H' => Same H5 H' ∧ H' Da = some (.lst (((ys2.take i).filter (fun g => decide (g ∈ r.fcs))).map V.str))) ⟨same_new nD, upd_same⟩ (fun i H2 _ h => SqL.of (h.1 _ _ e5)) ?_ ?_
      · rintro i y H6 H7 hi ⟨s6, e6⟩ ⟨rfl, ey⟩
        obtain ⟨g, eg, rfl⟩ := strs_at ey
        obtain ⟨fr, mf, rfl⟩ := List.mem_map.mp (pm2.mem_iff.mp (List.mem_of_getElem? eg))
        obtain ⟨dx, kt', ft', ut', hx⟩ := insx H7 (s5.trans s6)
        refine ⟨rfl, .str r.nm, rfl, .ref x, rfl, x, dx, _, rfl, hx, lkn _ _ _ _ (by decide +kernel) (by decide +kernel) (by decide +kernel) (by decide +kernel), .str fr.nm, rfl, x, .str fr.nm, ks, fs, us, root, rfl, Bt.same (s5.trans s6), ok, .inl ⟨fr.nm, rfl, bs_f mf, fun l p8 H8 ml s8 n8 e8 => ⟨p8, l.map V.str, rfl, .inl (SqL.of e8), rfl, flat_map _, _, rfl, ?_⟩⟩⟩
        have e68 := s8 _ _ e6
        show if (if false = true then !inV (.str r.nm) (l.map V.str) else inV (.str r.nm) (l.map V.str)) = true then _ else _
        rw [if_neg (show ¬ (false = true) by decide), inV_strs]
        by_cases hin : fr.nm ∈ r.fcs
        · rw [decide_eq_true ((mem_face ok mr mf ml).mpr hin), if_pos rfl]
          refine ⟨.str fr.nm, rfl, _, e68, lt _ ?_, same_upd (s6.trans s8) nD, ?_⟩
          · rw [List.length_map]
            have h1 := List.length_filter_le (fun g => decide (g ∈ r.fcs)) (ys2.take i)
            have h2 := List.length_take_le i ys2
            rw [List.length_map] at hi
            omega
          · rw [upd_same, take_succ eg, List.filter_append, List.map_append, List.filter_cons_of_pos (by simpa using hin)]
            rfl
        · rw [decide_eq_false (fun h => hin ((mem_face ok mr mf ml).mp h)), if_neg (by decide)]
          refine ⟨s6.trans s8, ?_⟩
          rw [take_succ eg, List.filter_append, List.filter_cons_of_neg (by simpa using hin), List.filter_nil, List.append_nil]
          exact e68
      · rintro H6 ⟨s6, e6⟩
        rw [List.length_map, List.take_length, face_list ok mr pm2 so2] at e6
        have lo : (ord false r.fcs).length ≤ 3 := by rw [ord_len]; exact (ok.kf r mr).2.2
        refine ⟨Da, _, rfl, .inr (SqL.of e6), hS _ (by rw [List.append_nil, List.length_cons, List.length_cons, List.length_map]; omega), fun p7 n7 => ?_⟩
        have t7 := same_new (o := .lst (V.str "kind" :: V.str r.nm :: ((ord false r.fcs).map V.str ++ []))) n7
        have t47 := (t5.trans s6).trans t7
        obtain ⟨r1, r2⟩ := b4.push (b := .kind r.nm (ord false r.fcs)) s4 t47 np (by rw [upd_same, List.append_nil]; rfl) ((t5.trans s6).free n7)
        refine ⟨p, _, _, rfl, rfl, t47 _ _ b4.1, lt _ (by rw [List.length_map]; omega), ?_⟩
        have e17 : (upd (upd H6 p7 (.lst (V.str "kind" :: V.str r.nm :: ((ord false r.fcs).map V.str ++ [])))) p (.lst ((ps.map fun x => V.ref x.1) ++ [V.ref p7]))) p1 = some (.lst (ys1.map V.str)) := by
          rw [upd_ne ne1]
          exact t47 _ _ e14
        have eq1 : ((.lst (V.str "kind" :: V.str r.nm :: ((ord false r.fcs).map V.str ++ []))) : HO) = .lst (V.str "kind" :: V.str r.nm :: ((ord false r.fcs).map V.str ++ [])) := rfl
        generalize upd (upd H6 p7 (.lst (V.str "kind" :: V.str r.nm :: ((ord false r.fcs).map V.str ++ [])))) p (.lst ((ps.map fun x => V.ref x.1) ++ [V.ref p7])) = H8 at r1 r2 e17
        refine ⟨.ref p, rfl, .inl ⟨rfl, _, SqL.of r2.1⟩, .ref x, rfl, .str r.nm, rfl, x, r.nm, ks, fs, us, root, rfl, Bt.same r1, ok, bs_k mr, fun fds p9 qs H9 hf s9 n9 w9 e9 => ?_⟩
        cases fds_k ok mr hf
        have lq : qs.length = (ordF false (cfs r.fds)).length := by
          have := congrArg List.length e9
          rw [List.length_map, List.length_map] at this
          exact this
        obtain ⟨r3, r4⟩ := r2.ext r1 s9 np w9
        refine ⟨p, p9, _, _, rfl, rfl, s9 _ _ r2.1, w9.1, hS _ (by rw [List.length_map, List.length_map, List.length_append]; show ps.length + 1 + qs.length ≤ 1000; omega), ps ++ [(p7, .kind r.nm (ord false r.fcs))] ++ qs, _, rfl, r3, ?_, r4, ?_⟩
        · rw [upd_ne ne1]
          exact s9 _ _ e17
        · rw [enew, List.map_append, List.map_append, e9, List.append_assoc]
          rfl
    rintro σ HA ⟨ps1, y2, rfl, sA, _, bA, epA⟩
    rw [List.length_map, List.take_length, ← v1] at epA
    clear e0 s0 b1 t1 e1 s1 ne1 n1
    -- the faces
    obtain ⟨dx, kt', ft', ut', hx⟩ := insx HA sA
    refine ⟨.ref x, rfl, x, dx, _, rfl, hx, lkn _ _ _ _ (by decide +kernel) (by decide +kernel) (by decide +kernel) (by decide +kernel), x, ks, fs, us, root, rfl, Bt.same sA, k1, f1', u1, fun ys2 p1 H1 pm2 so2 t1 n1 e1 => ?_⟩
    have b1 := bA.same t1
    have s1 := sA.trans t1
    have ne1 : p1 ≠ p := fun z => by rw [z, bA.1] at n1; cases n1
    have v2 := srt_eq pm2 so2
    refine ⟨p1, rfl, ⟨_, SqL.of e1⟩, for_list (xs := ys2.map V.str) (fun j σ H4 => ∃ (ps : List (Addr × Ln)) (y3 : Option V), σ = [some (.ref x), some (.ref p), y2, y3, none, none] ∧ Same H H4 ∧ H4 p1 = some (.lst (ys2.map V.str)) ∧ Wk H H4 p ps ∧ ps.map (·.2) = ps1.map (·.2) ++ lnsOf ((ys2.take j).map (fun z => Blk.face z (ordF false (fFd fs z))))) ?_ ?_ ?_ ?_⟩
    · exact ⟨ps1, _, rfl, s1, e1, b1, (List.append_nil _).symm⟩
    · rintro j σ H4 _ ⟨_, _, _, _, h, _⟩
      exact SqL.of h
    · rintro j y σ H4 ey ⟨ps, y3, rfl, s4, e14, b4, ep⟩
      obtain ⟨z, ez, rfl⟩ := strs_at ey
      obtain ⟨r, mr, rfl⟩ := List.mem_map.mp (pm2.mem_iff.mp (List.mem_of_getElem? ez))
      have hl1 : (lnsOf ((srt (ks.map (·.nm))).map (fun z => Blk.kind z (ord false (kFc ks z)) (ordF false (kFd ks z))) ++ (ys2.take (j + 1)).map (fun z => Blk.face z (ordF false (fFd fs z))))).length ≤ 100 := by
        refine llen (suf := (ys2.drop (j + 1)).map (fun z => Blk.face z (ordF false (fFd fs z))) ++ ((srt (us.map (·.nm))).map (fun z => Blk.union z (ord false (uMs us z))) ++ [.root root])) ?_
        rw [cut, v2]
        conv => lhs; rw [← List.take_append_drop (j + 1) ys2]
        rw [List.map_append, List.append_assoc, List.append_assoc]
      have enew : lnsOf ((ys2.take (j + 1)).map (fun z => Blk.face z (ordF false (fFd fs z)))) = lnsOf ((ys2.take j).map (fun z => Blk.face z (ordF false (fFd fs z)))) ++ (Ln.face r.nm :: (ordF false (cfs r.fds)).map Ln.fld) := by
        rw [take_succ ez, List.map_append, lnsOf_append, List.map_cons, List.map_nil, lnsOf_one, fFd_of ok.ndf mr]
        rfl
      have lps : ps.length = (lnsOf ((srt (ks.map (·.nm))).map (fun z => Blk.kind z (ord false (kFc ks z)) (ordF false (kFd ks z))))).length + (lnsOf ((ys2.take j).map (fun z => Blk.face z (ordF false (fFd fs z))))).length := by
        have := congrArg List.length ep
        rw [List.length_map, List.length_append, epA] at this
        exact this
      rw [lnsOf_append, enew, List.length_append, List.length_append, List.length_cons, List.length_map] at hl1
      refine ⟨.ref p, rfl, .inl ⟨rfl, _, SqL.of b4.1⟩, .str r.nm, rfl, hS 2 (by decide), fun p7 n7 => ?_⟩
      have t7 := same_new (o := .lst [V.str "face", V.str r.nm]) n7
      obtain ⟨r1, r2⟩ := b4.push (b := .face r.nm) s4 t7 np (by rw [upd_same]; rfl) n7
      refine ⟨p, _, _, rfl, rfl, t7 _ _ b4.1, lt _ (by rw [List.length_map]; omega), ?_⟩
      have e17 : (upd (upd H4 p7 (.lst [V.str "face", V.str r.nm])) p (.lst ((ps.map fun x => V.ref x.1) ++ [V.ref p7]))) p1 = some (.lst (ys2.map V.str)) := by
        rw [upd_ne ne1]
        exact t7 _ _ e14
      generalize upd (upd H4 p7 (.lst [V.str "face", V.str r.nm])) p (.lst ((ps.map fun x => V.ref x.1) ++ [V.ref p7])) = H8 at r1 r2 e17
      refine ⟨.ref p, rfl, .inl ⟨rfl, _, SqL.of r2.1⟩, .ref x, rfl, .str r.nm, rfl, x, r.nm, ks, fs, us, root, rfl, Bt.same r1, ok, bs_f mr, fun fds p9 qs H9 hf s9 n9 w9 e9 => ?_⟩
      cases fds_f ok mr hf
      have lq : qs.length = (ordF false (cfs r.fds)).length := by
        have := congrArg List.length e9
        rw [List.length_map, List.length_map] at this
        exact this
      obtain ⟨r3, r4⟩ := r2.ext r1 s9 np w9
      refine ⟨p, p9, _, _, rfl, rfl, s9 _ _ r2.1, w9.1, hS _ (by rw [List.length_map, List.length_map, List.length_append]; show ps.length + 1 + qs.length ≤ 1000; omega), ps ++ [(p7, .face r.nm)] ++ qs, _, rfl, r3, ?_, r4, ?_⟩
      · rw [upd_ne ne1]
        exact s9 _ _ e17
      · rw [enew, List.map_append, List.map_append, e9, ep, List.append_assoc, List.append_assoc]
        rfl
    rintro σ HB ⟨ps2, y3, rfl, sB, _, bB, epB⟩
    rw [List.length_map, List.take_length, ← v2, epA] at epB
    clear b1 t1 e1 s1 ne1 n1
    -- the unions
    obtain ⟨dx, kt', ft', ut', hx⟩ := insx HB sB
    refine ⟨.ref x, rfl, x, dx, _, rfl, hx, lkn _ _ _ _ (by decide +kernel) (by decide +kernel) (by decide +kernel) (by decide +kernel), x, ks, fs, us, root, rfl, Bt.same sB, k1, f1', u1, fun ys3 p1 H1 pm3 so3 t1 n1 e1 => ?_⟩
    have b1 := bB.same t1
    have s1 := sB.trans t1
    have ne1 : p1 ≠ p := fun z => by rw [z, bB.1] at n1; cases n1
    have v3 := srt_eq pm3 so3
    refine ⟨p1, rfl, ⟨_, SqL.of e1⟩, for_list (xs := ys3.map V.str) (fun j σ H4 => ∃ (ps : List (Addr × Ln)) (y4 : Option V), σ = [some (.ref x), some (.ref p), y2, y3, y4, none] ∧ Same H H4 ∧ H4 p1 = some (.lst (ys3.map V.str)) ∧ Wk H H4 p ps ∧ ps.map (·.2) = ps2.map (·.2) ++ lnsOf ((ys3.take j).map (fun z => Blk.union z (ord false (uMs us z))))) ?_ ?_ ?_ ?_⟩
    · exact ⟨ps2, _, rfl, s1, e1, b1, (List.append_nil _).symm⟩
    · rintro j σ H4 _ ⟨_, _, _, _, h, _⟩
      exact SqL.of h
    · rintro j y σ H4 ey ⟨ps, y4, rfl, s4, e14, b4, ep⟩
      obtain ⟨z, ez, rfl⟩ := strs_at ey
      obtain ⟨r, mr, rfl⟩ := List.mem_map.mp (pm3.mem_iff.mp (List.mem_of_getElem? ez))
      have hl1 : (lnsOf ((srt (ks.map (·.nm))).map (fun z => Blk.kind z (ord false (kFc ks z)) (ordF false (kFd ks z))) ++ ((srt (fs.map (·.nm))).map (fun z => Blk.face z (ordF false (fFd fs z))) ++ (ys3.take (j + 1)).map (fun z => Blk.union z (ord false (uMs us z)))))).length ≤ 100 := by
        refine llen (suf := (ys3.drop (j + 1)).map (fun z => Blk.union z (ord false (uMs us z))) ++ [.root root]) ?_
        rw [cut, v3]
        conv => lhs; rw [← List.take_append_drop (j + 1) ys3]
        rw [List.map_append, List.append_assoc, List.append_assoc, List.append_assoc]
      have enew : lnsOf ((ys3.take (j + 1)).map (fun z => Blk.union z (ord false (uMs us z)))) = lnsOf ((ys3.take j).map (fun z => Blk.union z (ord false (uMs us z)))) ++ [Ln.union r.nm (ord false r.ms)] := by
        rw [take_succ ez, List.map_append, lnsOf_append, List.map_cons, List.map_nil, lnsOf_one, uMs_of ok.ndu mr]
        rfl
      have lps : ps.length = (lnsOf ((srt (ks.map (·.nm))).map (fun z => Blk.kind z (ord false (kFc ks z)) (ordF false (kFd ks z))))).length + (lnsOf ((srt (fs.map (·.nm))).map (fun z => Blk.face z (ordF false (fFd fs z))))).length + (lnsOf ((ys3.take j).map (fun z => Blk.union z (ord false (uMs us z))))).length := by
        have := congrArg List.length ep
        rw [List.length_map, List.length_append, epB, List.length_append] at this
        exact this
      rw [lnsOf_append, lnsOf_append, enew, List.length_append, List.length_append, List.length_append, List.length_singleton] at hl1
      obtain ⟨dx, kt', ft', ut', hx⟩ := insx H4 s4
      refine ⟨.ref p, rfl, .inl ⟨rfl, _, SqL.of b4.1⟩, .str r.nm, rfl, .ref x, rfl, x, dx, _, rfl, hx, lkn _ _ _ _ (by decide +kernel) (by decide +kernel) (by decide +kernel) (by decide +kernel), .str r.nm, rfl, x, .str r.nm, ks, fs, us, root, rfl, Bt.same s4, ok, .inl ⟨r.nm, rfl, bs_u mr, fun l p8 H8 ml s8 n8 e8 => ?_⟩⟩
      cases mem_union ok mr ml
      have lo : (ord false r.ms).length ≤ 4 := by rw [ord_len]; exact (ok.ud r mr).2.2.1
      refine ⟨p8, _, rfl, .inr (SqL.of e8), hS _ (by rw [List.append_nil, List.length_cons, List.length_cons, List.length_map]; omega), fun p7 n7 => ?_⟩
      have t7 := same_new (o := .lst (V.str "union" :: V.str r.nm :: ((ord false r.ms).map V.str ++ []))) n7
      obtain ⟨r1, r2⟩ := b4.push (b := .union r.nm (ord false r.ms)) s4 (s8.trans t7) np (by rw [upd_same, List.append_nil]; rfl) (s8.free n7)
      refine ⟨p, _, _, rfl, rfl, (s8.trans t7) _ _ b4.1, lt _ (by rw [List.length_map]; omega), ps ++ [(p7, .union r.nm (ord false r.ms))], _, rfl, r1, ?_, r2, ?_⟩
      · rw [upd_ne ne1]
        exact (s8.trans t7) _ _ e14
      · rw [enew, List.map_append, ep, List.append_assoc]
        rfl
    rintro σ HC ⟨ps3, y4, rfl, sC, _, bC, epC⟩
    rw [List.length_map, List.take_length, ← v3, epB] at epC
    -- the root
    have eall : ps3.map (·.2) ++ [Ln.root root] = lnsOf BB := by
      rw [cut, epC, lnsOf_append, lnsOf_append, lnsOf_append, lnsOf_one, List.append_assoc, List.append_assoc]
      rfl
    have lall : ps3.length + 1 ≤ 100 := by
      have := gl.1
      rw [← eall, List.length_append, List.length_map] at this
      exact this
    obtain ⟨dx, kt', ft', ut', hx⟩ := insx HC sC
    refine ⟨.ref p, rfl, .inl ⟨rfl, _, SqL.of bC.1⟩, .ref x, rfl, x, C, dx, _, _, rfl, hx, L.cl, L.nr, lkr .., hS 2 (by decide), fun p7 n7 => ?_⟩
    have t7 := same_new (o := .lst [V.str "root", V.str root]) n7
    obtain ⟨r1, r2⟩ := bC.push (b := .root root) sC t7 np (by rw [upd_same]; rfl) n7
    refine ⟨p, _, _, rfl, rfl, t7 _ _ bC.1, lt _ (by rw [List.length_map]; omega), ?_⟩
    generalize upd (upd HC p7 (.lst [V.str "root", V.str root])) p (.lst ((ps3.map fun x => V.ref x.1) ++ [V.ref p7])) = H8 at r1 r2
    generalize hps : ps3 ++ [(p7, Ln.root root)] = ps4 at r2
    have e4 : ps4.map (·.2) = lnsOf BB := by
      rw [← eall, ← hps, List.map_append]
      rfl
    have l4 : ps4.length ≤ 100 := by
      rw [← hps, List.length_append]
      exact lall
    have wok : ∀ x ∈ ps4, LnOk x.2 := fun x m => gl.2 _ (by rw [← e4]; exact List.mem_map.mpr ⟨x, m, rfl⟩)
    refine ⟨⟨_, rfl⟩, .ref p, rfl, p, rfl, ⟨_, SqL.of r2.1⟩, fun Da nD => ?_⟩
    have npD : p ≠ Da := fun z => by rw [← z, r2.1] at nD; cases nD
    refine lc_it (walk_list (xs := ps4.map fun x => V.ref x.1)) (fun i H' => Same H8 H' ∧ H' Da = some (.lst (((ps4.take i).map fun x => ln x.2.ws).map V.str))) ⟨same_new nD, upd_same⟩ (fun i H2 _ h => SqL.of (h.1 _ _ r2.1)) ?_ ?_
    · rintro i y H6 H7 hi ⟨s6, e6⟩ ⟨rfl, ey⟩
      obtain ⟨g, eg, rfl⟩ : ∃ g, ps4[i]? = some g ∧ V.ref g.1 = y := by
        rw [List.getElem?_map] at ey
        cases h : ps4[i]? with
        | none => rw [h] at ey; cases ey
        | some g => rw [h] at ey; cases ey; exact ⟨g, rfl, rfl⟩
      have mg := List.mem_of_getElem? eg
      have hw := (wok g mg).ws
      refine ⟨rfl, lcT ⟨⟨_, rfl⟩, .ref g.1, rfl, " ", g.1, g.2.ws, rfl, rfl, .inl (SqL.of (s6 _ _ (r2.2 g mg).1)), ln_ok (low_le hw.1) (by have := hw.2.1; omega), _, e6, lt _ ?_, same_upd s6 nD, ?_⟩⟩
      · rw [List.length_map, List.length_map, List.length_take]
        omega
      · rw [upd_same, take_succ eg, List.map_append, List.map_append]
        rfl
    · rintro H6 ⟨s6, e6⟩
      rw [List.length_map, List.take_length] at e6
      have et : (ps4.map fun x => ln x.2.ws) = ((lnsOf BB).map (·.ws)).map ln := by
        rw [← e4, List.map_map, List.map_map]
        rfl
      have etx : Txt.join "\n" (ps4.map fun x => ln x.2.ws) = txtOf BB := by
        unfold txtOf
        rw [et, List.map_map]
        rfl
      refine ⟨"\n", Da, _, rfl, rfl, .inl (SqL.of e6), ?_, ?_⟩
      · rw [et]
        refine Nat.le_trans (txt_len (fun ws m => ?_) (by rw [List.length_map]; have := gl.1; omega)) (by decide)
        obtain ⟨l, ml, rfl⟩ := List.mem_map.mp m
        have hw := (gl.2 l ml).ws
        exact ⟨hw.2.1, low_le hw.1⟩
      · rw [etx, ← hB]
        exact qq H6 (r1.trans s6)
end
end NW
namespace NW
open PySem PySem.Spec PyProof.Rows L2
open TL (tl)
open StX (pa_star)
abbrev s_lines_of : Stmt := topS 38
abbrev N_lines_of : List Str := ["text"]
theorem sc_lines_of : FnScope N_lines_of ["text"] (defScope s_lines_of) := ⟨rfl, rfl, rfl, by decide +kernel, rfl, by decide +kernel, by decide +kernel⟩
abbrev s_is_schema_line : Stmt := topS 43
abbrev N_is_schema_line : List Str := ["words", "names", "name"]
theorem sc_is_schema_line : FnScope N_is_schema_line ["words"] (defScope s_is_schema_line) := ⟨rfl, rfl, rfl, by decide +kernel, rfl, by decide +kernel, by decide +kernel⟩
abbrev s_heading_of : Stmt := topS 45
abbrev N_heading_of : List Str := ["words"]
theorem sc_heading_of : FnScope N_heading_of ["words"] (defScope s_heading_of) := ⟨rfl, rfl, rfl, by decide +kernel, rfl, by decide +kernel, by decide +kernel⟩
abbrev s_shape_from : Stmt := topS 46
abbrev N_shape_from : List Str := ["words", "shape", "word"]
theorem sc_shape_from : FnScope N_shape_from ["words"] (defScope s_shape_from) := ⟨rfl, rfl, rfl, by decide +kernel, rfl, by decide +kernel, by decide +kernel⟩
theorem cut_from (xs : List V) (k : Nat) : cutV xs (some (k : Int)) none = xs.drop k := by
  unfold cutV
  rw [HT.sIx_nat, HT.sIx_none, List.take_of_length_le (by rw [List.length_drop]; exact Nat.le_refl _)]
  by_cases h : k ≤ xs.length
  · rw [Nat.min_eq_left h]
  · rw [Nat.min_eq_right (by omega), List.drop_of_length_le (Nat.le_refl _), List.drop_of_length_le (by omega)]
theorem sIx_m1 {n d : Nat} : HT.sIx n d (some (-1)) = n - 1 := by
  show (if ((-1 : Int)) < 0 then ((-1 : Int) + (n : Int)).toNat else min (-1 : Int).toNat n) = _
  rw [if_pos (by decide)]
  omega
theorem cut_last (xs : List V) : cutV xs none (some (-1)) = xs.dropLast := by
  unfold cutV
  rw [HT.sIx_none, sIx_m1, List.drop_zero, List.dropLast_eq_take, Nat.sub_zero]
theorem cut_mid (xs : List V) : cutV xs (some ((1 : Nat) : Int)) (some (-1)) = (xs.drop 1).dropLast := by
  unfold cutV
  rw [HT.sIx_nat, sIx_m1, List.dropLast_eq_take, List.length_drop]
  cases xs with
  | nil => rfl
  | cons x r =>
    rw [Nat.min_eq_left (by simp)]
theorem atI_last {α : Type} {xs : List α} {v : α} (h : xs[xs.length - 1]? = some v) : atI xs (-1) = some v := by
  have h1 : xs.length - 1 < xs.length := by
    by_cases h0 : xs.length - 1 < xs.length
    · exact h0
    · rw [List.getElem?_eq_none (by omega)] at h
      cases h
  unfold atI ixN
  rw [if_neg (by decide), if_pos (by omega)]
  show xs[((-1 : Int) + (xs.length : Int)).toNat]? = some v
  rw [show ((-1 : Int) + (xs.length : Int)).toNat = xs.length - 1 by omega]
  exact h
theorem shW_inj : ∀ {s t : Shp}, shW s = shW t → s = t
  | .base a, .base b, h => by rw [(List.cons.inj h).1]
  | .base a, .sure t, h => by
    have := shW_pos t
    have h2 := congrArg List.length (List.cons.inj h).2
    rw [List.length_nil] at h2
    omega
  | .base a, .list t, h => by
    have := shW_pos t
    have h2 := congrArg List.length (List.cons.inj h).2
    rw [List.length_nil] at h2
    omega
  | .sure s, .base b, h => by
    have := shW_pos s
    have h2 := congrArg List.length (List.cons.inj h).2
    rw [List.length_nil] at h2
    omega
  | .list s, .base b, h => by
    have := shW_pos s
    have h2 := congrArg List.length (List.cons.inj h).2
    rw [List.length_nil] at h2
    omega
  | .sure s, .sure t, h => by rw [shW_inj (List.cons.inj h).2]
  | .list s, .list t, h => by rw [shW_inj (List.cons.inj h).2]
  | .sure s, .list t, h => absurd (List.cons.inj h).1 (show ¬ ("sure" : Str) = "list" by decide +kernel)
  | .list s, .sure t, h => absurd (List.cons.inj h).1 (show ¬ ("list" : Str) = "sure" by decide +kernel)
theorem wr_mem : ∀ {s : Shp} {i : Nat} {z : Str}, i + 1 < (shW s).length → (shW s)[i]? = some z → z = "sure" ∨ z = "list"
  | .base a, i, z, h, e => by
    have : i + 1 < 1 := h
    omega
  | .sure s, 0, z, h, e => .inl (Option.some.inj e).symm
  | .list s, 0, z, h, e => .inr (Option.some.inj e).symm
  | .sure s, i + 1, z, h, e => wr_mem (s := s) (i := i) (by have : i + 1 + 1 < (shW s).length + 1 := h; omega) e
  | .list s, i + 1, z, h, e => wr_mem (s := s) (i := i) (by have : i + 1 + 1 < (shW s).length + 1 := h; omega) e
theorem wrs_last (s : Shp) : ∀ z ∈ (shW s).dropLast, z = "sure" ∨ z = "list" := fun z m => by
  obtain ⟨i, hi, e⟩ := List.getElem_of_mem m
  rw [List.length_dropLast] at hi
  rw [List.getElem_dropLast] at e
  exact wr_mem (s := s) (i := i) (by omega) (by rw [List.getElem?_eq_getElem (by omega), e])
section
variable {P : Program} {w : World} {K : PySem.W.Frag} {mg : Str → Option Value} {base : Heap}
def sp_lines_of : Sp := fun vs H Q _ => ∃ z : Str, vs = [.str z] ∧ z ≠ "" ∧ z.length + 2 ≤ sizeLine ∧ ∀ p H', Same H H' → H p = none → H' p = some (.lst ((Txt.split z "\n").map V.str)) → Q (.ref p) H'
theorem ok_lines_of {f : Addr} {fd : FuncData} (D : Df K mg "lines_of" s_lines_of f fd ["text"]) (T : Nms mg) : FnOk P w K mg base CX0 1 f fd ["text"] sp_lines_of := by
  refine D.F.ok sc_lines_of (fun vs H Q E h => ?_) (fun cdv A outer s H vs Q E hr h => ?_)
  · obtain ⟨z, rfl, _⟩ := h
    rfl
  · obtain ⟨z, rfl, ne, hl, q⟩ := h
    refine ⟨_, (pss_cons (ps_if (pt_not (pt_val (pe_callB call_isi (by rfl) T.n_isinstance (by decide +kernel) (pa_cons (pv 0) (pa_cons (pe_bltn (v := .ty "str") (by rfl) T.n_str (by decide +kernel) rfl) pa_nil)))))
       (pss_one ps_never)
       pss_nil)
      (pss_cons (ps_if (pt_cmpR op_eq (pv 0) pe_str (nomark _))
       (pss_one (ps_ret (pe_lst pa_nil)))
       pss_nil)
      (pss_one (ps_ret (pe_split (pv 0) pe_str))))), ?_⟩
    refine ⟨.str z, rfl, _, _, _, _, true, rfl, .ty "str", .base (.str z), kit_ty (by decide +kernel), true, rfl, iteF ⟨.str z, rfl, rfl, false, blF (fun e => ne (V.str.inj e)), iteF ?_⟩⟩
    exact ⟨.str z, rfl, ⟨z, rfl⟩, z, "\n", rfl, rfl, by decide +kernel, hl, fun p np => q p _ (same_new np) np upd_same⟩
def sp_shape_from : Sp := fun vs H Q _ => ∃ (a : Addr) (s : Shp), vs = [.ref a] ∧ H a = some (.lst ((shW s).map V.str)) ∧ ∀ v H', Same H H' → ShAt H' v s → Q v H'
theorem ok_shape_from {f : Addr} {fd : FuncData} (D : Df K mg "shape_from" s_shape_from f fd ["words"]) (T : Nms mg) : FnOk P w K mg base CX0 1 f fd ["words"] sp_shape_from := by
  refine D.F.ok sc_shape_from (fun vs H Q E h => ?_) (fun cdv A outer s H vs Q E hr h => ?_)
  · obtain ⟨a, s, rfl, _⟩ := h
    rfl
  · obtain ⟨a, sh, rfl, ha, q⟩ := h
    refine ⟨_, (pss_cons (ps_set (i := 1) sc_shape_from.nd rfl (.inl rfl) (pe_ix ix_list (pv 0) (pe_un un_neg pe_int) (fun _ _ => rfl)))
      (pss_cons (ps_for PassesOwn.never rfl (pi_list (pe_revL (pe_slice sl_list (pv 0) po_none (po_some (pe_un un_neg pe_int))))) (pg_name (i := 2) sc_shape_from.nd rfl (.inl rfl))
       (pss_one (ps_set (i := 1) sc_shape_from.nd rfl (.inl rfl) (pe_tup (pa_cons (pv 2) (pa_cons (pv 1) pa_nil))))))
      (pss_one (ps_ret (pv 1))))), ?_⟩
    have hS : ∀ n : Nat, n ≤ 1000 → n ≤ sizeLine := fun n h => Nat.le_trans h (by decide)
    have pos := shW_pos sh
    have hwr := @wr_mem sh
    have hinj : ∀ s', shW s' = shW sh → s' = sh := fun s' => shW_inj
    generalize shW sh = L at ha pos hwr hinj
    have hn : L.length - 1 < L.length := by omega
    have el : (L.map V.str)[(L.map V.str).length - 1]? = some (V.str L[L.length - 1]) := by
      rw [List.length_map, List.getElem?_map, List.getElem?_eq_getElem hn]
      rfl
    refine ⟨.ref a, rfl, 1, rfl, a, _, -1, _, rfl, rfl, SqL.of ha, atI_last el, ?_⟩
    refine ⟨.ref a, rfl, 1, rfl, _, rfl, a, _, rfl, SqL.of ha, fun p np => ?_⟩
    rw [cut_last]
    have s1 := same_new (o := .lst (L.map V.str).dropLast) np
    refine ⟨p, _, rfl, SqL.of upd_same, fun r nr => ?_⟩
    have eR : (L.map V.str).dropLast.reverse = (L.dropLast.reverse).map V.str := by rw [List.map_reverse, List.map_dropLast]
    rw [eR]
    have s2 := s1.trans (same_new (o := .lst ((L.dropLast.reverse).map V.str)) nr)
    have e2 : (upd (upd H p (.lst (L.map V.str).dropLast)) r (.lst ((L.dropLast.reverse).map V.str))) r = some (.lst ((L.dropLast.reverse).map V.str)) := upd_same
    generalize upd (upd H p (.lst (L.map V.str).dropLast)) r (.lst ((L.dropLast.reverse).map V.str)) = H1 at s2 e2
    have lr : (L.dropLast.reverse).length = L.length - 1 := by rw [List.length_reverse, List.length_dropLast]
    refine ⟨r, rfl, ⟨_, SqL.of e2⟩, for_list (xs := (L.dropLast.reverse).map V.str) (fun j σ H4 => ∃ (v : V) (s' : Shp) (y2 : Option V), σ = [some (.ref a), some v, y2] ∧ Same H H4 ∧ H4 r = some (.lst ((L.dropLast.reverse).map V.str)) ∧ ShAt H4 v s' ∧ shW s' = L.drop (L.length - 1 - j)) ?_ ?_ ?_ ?_⟩
    · refine ⟨_, .base L[L.length - 1], _, rfl, s2, e2, rfl, ?_⟩
      rw [Nat.sub_zero, List.drop_eq_getElem_cons hn, List.drop_of_length_le (by omega)]
      rfl
    · rintro j σ H4 _ ⟨_, _, _, _, _, h, _⟩
      exact SqL.of h
    · rintro j y σ H4 ey ⟨v, s', y2, rfl, s4, e4, hv, ew⟩
      obtain ⟨z, ez, rfl⟩ := strs_at ey
      have hj : j < L.length - 1 := by
        by_cases h : j < L.length - 1
        · exact h
        · rw [List.getElem?_eq_none (by omega)] at ez
          cases ez
      have hk : L.length - 2 - j < L.length := by omega
      have ez' : L[L.length - 2 - j]? = some z := by
        rw [List.getElem?_reverse (by rw [List.length_dropLast]; exact hj), List.length_dropLast, List.getElem?_dropLast, if_pos (by omega)] at ez
        rw [show L.length - 2 - j = L.length - 1 - 1 - j by omega]
        exact ez
      have hz : L[L.length - 2 - j] = z := by
        rw [List.getElem?_eq_getElem hk] at ez'
        exact Option.some.inj ez'
      have ed : L.drop (L.length - 1 - (j + 1)) = z :: shW s' := by
        rw [show L.length - 1 - (j + 1) = L.length - 2 - j by omega, List.drop_eq_getElem_cons hk, hz, ew, show L.length - 2 - j + 1 = L.length - 1 - j by omega]
      refine ⟨.str z, rfl, v, rfl, hS 2 (by decide), fun p5 n5 => ?_⟩
      have s5 := same_new (o := .tup [.str z, v]) n5
      rcases hwr (i := L.length - 2 - j) (by omega) ez' with rfl | rfl
      · exact ⟨_, .sure s', _, rfl, s4.trans s5, s5 _ _ e4, ⟨p5, v, rfl, upd_same, hv.same s5⟩, ed.symm⟩
      · exact ⟨_, .list s', _, rfl, s4.trans s5, s5 _ _ e4, ⟨p5, v, rfl, upd_same, hv.same s5⟩, ed.symm⟩
    · rintro σ H4 ⟨v, s', y2, rfl, s4, e4, hv, ew⟩
      rw [List.length_map, lr, Nat.sub_self, List.drop_zero] at ew
      cases hinj s' ew
      exact ⟨_, rfl, q v H4 s4 hv⟩
def sp_is_schema_line : Sp := fun vs H Q _ => ∃ (a : Addr) (l : Ln), vs = [.ref a] ∧ H a = some (.lst (l.ws.map V.str)) ∧ LnOk l ∧ ∀ H', Same H H' → Q (.bl true) H'
theorem kf_ne : ¬ V.str "kind" = V.str "field" ∧ ¬ V.str "face" = V.str "kind" ∧ ¬ V.str "face" = V.str "union" ∧ ¬ V.str "union" = V.str "kind" ∧ ¬ V.str "root" = V.str "kind" ∧ ¬ V.str "root" = V.str "union" ∧ ¬ V.str "root" = V.str "face" ∧ ¬ V.str "field" = V.str "kind" ∧ ¬ V.str "field" = V.str "union" ∧ ¬ V.str "field" = V.str "face" ∧ ¬ V.str "field" = V.str "root" := by decide +kernel
theorem ok_is_schema_line {f f1 wa : Addr} {fd fd1 : FuncData} (D : Df K mg "is_schema_line" s_is_schema_line f fd ["words"]) (D_is_name : Df K mg "is_name" s_is_name f1 fd1 ["word"]) (g_W : mg "WRAPPERS" = some (.ref wa)) (hW : ∀ H, SqT K H wa [.str "list", .str "sure"]) (T : Nms mg) (C : Cst K mg) : FnOk P w K mg base CX0 2 f fd ["words"] sp_is_schema_line := by
  have G_is_name : FnOk P w K mg base CX0 1 f1 fd1 ["word"] spIsName := ok_is_name D_is_name T C
  refine D.F.ok sc_is_schema_line (fun vs H Q E h => ?_) (fun cdv A outer s H vs Q E hr h => ?_)
  · obtain ⟨a, l, rfl, _⟩ := h
    rfl
  · obtain ⟨a, l, rfl, ha, lk, q⟩ := h
    refine ⟨_, (pss_cons (ps_set (i := 1) sc_is_schema_line.nd rfl (.inl rfl) (pe_slice sl_list (pv 0) (po_some pe_int) po_none))
      (pss_cons (ps_if (pt_not (pt_val (pe_callB (cr_all rfl) (by rfl) T.n_all (by decide +kernel) (pa_cons (pe_lc (own := [("name", 2)]) (g := (gName 2)) (tt := tYes) rfl sc_is_schema_line.nd (pi_list (pv 1)) (blkOk_by (own := [("name", 2)]) (N := N_is_schema_line) (sc := defScope s_is_schema_line) (by decide +kernel)) (fun _ _ _ _ _ => (pg_name (i := 2) sc_is_schema_line.nd rfl (.inl rfl))) (fun _ _ _ _ _ => pts_nil) (fun _ _ _ _ _ => (pe_call G_is_name (hr.mono (by decide)) (by rfl) D_is_name.g D_is_name.F.kp D_is_name.b .nil pass0 (pa_cons (pv 2) pa_nil)))) pa_nil))))
       (pss_one (ps_ret pe_bl))
       pss_nil)
      (pss_cons (ps_if (PW.pt (pw_or (pt_cmpR op_eq (pe_ix ix_list (pv 0) pe_int (fun _ _ => rfl)) pe_str (nomark _)) (pw_or1 (pt_cmpR op_eq (pe_ix ix_list (pv 0) pe_int (fun _ _ => rfl)) pe_str (nomark _)))))
       (pss_one (ps_ret (pe_cmpR op_ge (pe_callB call_len_seq (by rfl) T.n_len (by decide +kernel) (pa_cons (pv 1) pa_nil)) pe_int (nomark _))))
       pss_nil)
      (pss_cons (ps_if (PW.pt (pw_or (pt_cmpR op_eq (pe_ix ix_list (pv 0) pe_int (fun _ _ => rfl)) pe_str (nomark _)) (pw_or1 (pt_cmpR op_eq (pe_ix ix_list (pv 0) pe_int (fun _ _ => rfl)) pe_str (nomark _)))))
       (pss_one (ps_ret (pe_cmpR op_eq (pe_callB call_len_seq (by rfl) T.n_len (by decide +kernel) (pa_cons (pv 1) pa_nil)) pe_int (nomark _))))
       pss_nil)
      (pss_one (ps_ret (pe_and (pe_cmpR op_eq (pe_ix ix_list (pv 0) pe_int (fun _ _ => rfl)) pe_str (nomark _)) (pe_and (pe_cmpR op_ge (pe_callB call_len_seq (by rfl) T.n_len (by decide +kernel) (pa_cons (pv 1) pa_nil)) pe_int (nomark _)) (pe_one (pe_callB (cr_all rfl) (by rfl) T.n_all (by decide +kernel) (pa_cons (pe_lc (own := [("name", 2)]) (g := (gName 2)) (tt := tYes) rfl sc_is_schema_line.nd (pi_list (pe_slice sl_list (pv 1) (po_some pe_int) (po_some (pe_un un_neg pe_int)))) (blkOk_by (own := [("name", 2)]) (N := N_is_schema_line) (sc := defScope s_is_schema_line) (by decide +kernel)) (fun _ _ _ _ _ => (pg_name (i := 2) sc_is_schema_line.nd rfl (.inl rfl))) (fun _ _ _ _ _ => pts_nil) (fun _ _ _ _ _ => (pe_cmpR (op_in_seqK K) (pv 2) (pe_glob (v := .ref wa) (by rfl) g_W rfl) (by rfl)))) pa_nil))))))))))), ?_⟩
    have hlen := lk.ws
    have hS : ∀ n : Nat, n ≤ 1000 → n ≤ sizeLine := fun n h => Nat.le_trans h (by decide)
    obtain ⟨k1, k2, k3, k4, k5, k6, k7, k8, k9, k10, k11⟩ := kf_ne
    refine ⟨.ref a, rfl, _, rfl, a, _, rfl, SqL.of ha, fun p np => ?_⟩
    have ec : cutV (l.ws.map V.str) (some ((1 : Nat) : Int)) none = (l.ws.drop 1).map V.str := by rw [cut_from, List.map_drop]
    have ec' : cutV (l.ws.map V.str) (some 1) none = (l.ws.drop 1).map V.str := ec
    rw [ec']
    have s1 := same_new (o := .lst ((l.ws.drop 1).map V.str)) np
    have e1 : (upd H p (.lst ((l.ws.drop 1).map V.str))) p = some (.lst ((l.ws.drop 1).map V.str)) := upd_same
    generalize upd H p (.lst ((l.ws.drop 1).map V.str)) = H1 at s1 e1
    have hn : ∀ z ∈ l.ws.drop 1, IsName z := fun z m => hlen.1 z (List.mem_of_mem_drop m)
    have ln1 : (l.ws.drop 1).length = l.ws.length - 1 := List.length_drop ..
    refine ⟨.ref p, rfl, p, rfl, ⟨_, SqL.of e1⟩, fun Da nD => ?_⟩
    refine lc_all (walk_list (xs := (l.ws.drop 1).map V.str)) (fun i x => ∃ z, (l.ws.drop 1)[i]? = some z ∧ x = .str z) ?_ (fun H sm => SqL.of (sm _ _ e1)) nD (by rw [List.length_map]; omega) (fun _ => rfl) ?_ ?_
    · rintro i H x H' hi ⟨rfl, e⟩
      obtain ⟨z, ez, rfl⟩ := strs_at e
      exact ⟨rfl, z, ez, rfl⟩
    · rintro i x H2 Q2 hi ⟨z, ez, rfl⟩ sm k
      exact ⟨.str z, rfl, z, rfl, hn z (List.mem_of_getElem? ez), fun H3 s3 => k H3 s3⟩
    · intro H2 sm e2
      have s2 := s1.trans sm
      have ha2 := s2 _ _ ha
      have e12 := sm _ _ e1
      refine ⟨Da, _, rfl, SqL.of e2, true, congrArg V.bl (all_true _), iteF ?_⟩
      cases l with
      | kind n fc =>
        refine ⟨.ref a, rfl, a, _, 0, _, rfl, rfl, SqL.of ha2, atI_nat (j := 0) rfl, rfl, true, blT rfl, iteT ⟨.ref p, rfl, p, _, rfl, .inl (SqL.of e12), _, _, rfl, rfl, ?_⟩⟩
        have e9 : decide ((1 : Int) ≤ ((((Ln.kind n fc).ws.drop 1).map V.str).length : Int)) = true := decide_eq_true (by rw [List.length_map, ln1]; omega)
        show Q (V.bl (decide ((1 : Int) ≤ ((((Ln.kind n fc).ws.drop 1).map V.str).length : Int)))) H2
        rw [e9]
        exact q _ s2
      | union n ms =>
        refine ⟨.ref a, rfl, a, _, 0, _, rfl, rfl, SqL.of ha2, atI_nat (j := 0) rfl, rfl, false, blF k4, iteF ⟨.ref a, rfl, a, _, 0, _, rfl, rfl, SqL.of ha2, atI_nat (j := 0) rfl, rfl, true, blT rfl, iteT ⟨.ref p, rfl, p, _, rfl, .inl (SqL.of e12), _, _, rfl, rfl, ?_⟩⟩⟩
        have e9 : decide ((1 : Int) ≤ ((((Ln.union n ms).ws.drop 1).map V.str).length : Int)) = true := decide_eq_true (by rw [List.length_map, ln1]; omega)
        show Q (V.bl (decide ((1 : Int) ≤ ((((Ln.union n ms).ws.drop 1).map V.str).length : Int)))) H2
        rw [e9]
        exact q _ s2
      | face n => exact ⟨.ref a, rfl, a, _, 0, _, rfl, rfl, SqL.of ha2, atI_nat (j := 0) rfl, rfl, false, blF k2, iteF ⟨.ref a, rfl, a, _, 0, _, rfl, rfl, SqL.of ha2, atI_nat (j := 0) rfl, rfl, false, blF k3, iteF ⟨.ref a, rfl, a, _, 0, _, rfl, rfl, SqL.of ha2, atI_nat (j := 0) rfl, rfl, true, blT rfl, iteT ⟨.ref p, rfl, p, _, rfl, .inl (SqL.of e12), rfl, q _ s2⟩⟩⟩⟩
      | root n => exact ⟨.ref a, rfl, a, _, 0, _, rfl, rfl, SqL.of ha2, atI_nat (j := 0) rfl, rfl, false, blF k5, iteF ⟨.ref a, rfl, a, _, 0, _, rfl, rfl, SqL.of ha2, atI_nat (j := 0) rfl, rfl, false, blF k6, iteF ⟨.ref a, rfl, a, _, 0, _, rfl, rfl, SqL.of ha2, atI_nat (j := 0) rfl, rfl, false, blF k7, iteF ⟨.ref a, rfl, a, _, 0, _, rfl, rfl, SqL.of ha2, atI_nat (j := 0) rfl, rfl, true, blT rfl, iteT ⟨.ref p, rfl, p, _, rfl, .inl (SqL.of e12), rfl, q _ s2⟩⟩⟩⟩⟩
      | fld f =>
        refine ⟨.ref a, rfl, a, _, 0, _, rfl, rfl, SqL.of ha2, atI_nat (j := 0) rfl, rfl, false, blF k8, iteF ⟨.ref a, rfl, a, _, 0, _, rfl, rfl, SqL.of ha2, atI_nat (j := 0) rfl, rfl, false, blF k9, iteF ⟨.ref a, rfl, a, _, 0, _, rfl, rfl, SqL.of ha2, atI_nat (j := 0) rfl, rfl, false, blF k10, iteF ⟨.ref a, rfl, a, _, 0, _, rfl, rfl, SqL.of ha2, atI_nat (j := 0) rfl, rfl, false, blF k11, iteF ?_⟩⟩⟩⟩
        have hl3 : 3 ≤ (Ln.fld f).ws.length := by
          have := shW_pos f.2
          show 3 ≤ (shW f.2).length + 1 + 1
          omega
        refine ⟨.ref a, rfl, a, _, 0, _, rfl, rfl, SqL.of ha2, atI_nat (j := 0) rfl, rfl, true, blT rfl, iteT ⟨.ref p, rfl, p, _, rfl, .inl (SqL.of e12), _, _, rfl, rfl, true, blT (by rw [List.length_map, ln1]; omega), iteT ⟨.ref p, rfl, _, rfl, 1, rfl, _, rfl, p, _, rfl, SqL.of e12, fun p2 n2 => ?_⟩⟩⟩
        have ec2 : cutV (((Ln.fld f).ws.drop 1).map V.str) (some 1) (some (-1)) = ((shW f.2).dropLast).map V.str := by
          have := cut_mid (((Ln.fld f).ws.drop 1).map V.str)
          rw [List.map_dropLast]
          exact this
        have ec3 : cutV (((Ln.fld f).ws.drop 1).map V.str) (some 1) (some (-1 : Int)) = ((shW f.2).dropLast).map V.str := ec2
        have s3 := s2.trans (same_new (o := .lst (((shW f.2).dropLast).map V.str)) n2)
        refine ⟨p2, rfl, ⟨_, SqL.of upd_same⟩, fun Db nDb => ?_⟩
        rw [ec3] at nDb ⊢
        have e3 : (upd H2 p2 (.lst (((shW f.2).dropLast).map V.str))) p2 = some (.lst (((shW f.2).dropLast).map V.str)) := upd_same
        generalize upd H2 p2 (.lst (((shW f.2).dropLast).map V.str)) = H3 at s3 e3 nDb
        have hl5 := lk.2.2
        refine lc_all (walk_list (xs := ((shW f.2).dropLast).map V.str)) (fun i x => ∃ z, ((shW f.2).dropLast)[i]? = some z ∧ x = .str z) ?_ (fun H sm => SqL.of (sm _ _ e3)) nDb (by rw [List.length_map, List.length_dropLast]; omega) (fun _ => rfl) ?_ ?_
        · rintro i H x H' hi ⟨rfl, e⟩
          obtain ⟨z, ez, rfl⟩ := strs_at e
          exact ⟨rfl, z, ez, rfl⟩
        · rintro i x H4 Q4 hi ⟨z, ez, rfl⟩ sm k
          refine ⟨.str z, rfl, wa, _, rfl, .inr (hW H4), rfl, rfl, ?_⟩
          rcases wrs_last f.2 z (List.mem_of_getElem? ez) with rfl | rfl
          · rw [inW_sure]
            exact k _ (Same.refl _)
          · rw [inW_list]
            exact k _ (Same.refl _)
        · intro H4 sm e4
          refine ⟨Db, _, rfl, SqL.of e4, ?_⟩
          rw [all_true]
          exact q _ (s3.trans sm)
def sp_heading_of (K : PySem.W.Frag) : Sp := fun vs H Q _ => ∃ (a : Addr) (w0 n : Str) (rest : List Str), vs = [.ref a] ∧ H a = some (.lst ((w0 :: n :: rest).map V.str)) ∧
  ((w0 = "root" ∧ ∀ r, (∀ H', SqT K H' r [.str "root", .str ""]) → Q (.ref r) H) ∨ (¬ w0 = "root" ∧ ∀ p, H p = none → Q (.ref p) (upd H p (.tup [.str w0, .str n]))))
theorem ok_heading_of {f ra : Addr} {fd : FuncData} (D : Df K mg "heading_of" s_heading_of f fd ["words"]) (g_R : mg "ROOT_HEADING" = some (.ref ra)) (hR : ∀ H, SqT K H ra [.str "root", .str ""]) (T : Nms mg) : FnOk P w K mg base CX0 1 f fd ["words"] (sp_heading_of K) := by
  refine D.F.ok sc_heading_of (fun vs H Q E h => ?_) (fun cdv A outer s H vs Q E hr h => ?_)
  · obtain ⟨a, w0, n, rest, rfl, _⟩ := h
    rfl
  · obtain ⟨a, w0, n, rest, rfl, ha, q⟩ := h
    refine ⟨_, (pss_cons (ps_if (pt_cmpR op_eq (pe_ix ix_list (pv 0) pe_int (fun _ _ => rfl)) pe_str (nomark _))
       (pss_one (ps_ret (pe_glob (v := .ref ra) (by rfl) g_R rfl)))
       pss_nil)
      (pss_one (ps_ret (pe_tup (pa_cons (pe_ix ix_list (pv 0) pe_int (fun _ _ => rfl)) (pa_cons (pe_ix ix_list (pv 0) pe_int (fun _ _ => rfl)) pa_nil)))))), ?_⟩
    rcases q with ⟨rfl, q⟩ | ⟨nw, q⟩
    · exact ⟨.ref a, rfl, a, _, 0, _, rfl, rfl, SqL.of ha, atI_nat (j := 0) rfl, rfl, true, blT rfl, iteT (q ra hR)⟩
    · exact ⟨.ref a, rfl, a, _, 0, _, rfl, rfl, SqL.of ha, atI_nat (j := 0) rfl, rfl, false, blF (fun e => nw (V.str.inj e)), iteF ⟨.ref a, rfl, a, _, 0, _, rfl, rfl, SqL.of ha, atI_nat (j := 0) rfl, .ref a, rfl, a, _, 1, _, rfl, rfl, SqL.of ha, atI_nat (j := 1) rfl, by show 2 ≤ sizeLine; decide, fun p np => q p np⟩⟩
end
end NW
namespace NW
open PySem PySem.Spec PyProof.Rows L2
open TL (tl)
/-! ### what has been read, in the heap -/
def keyL (k : List Str) : List Key := k.map Sum.inr
theorem keyL_kV (k : List Str) : (keyL k).map kV = k.map V.str := by
  unfold keyL
  rw [List.map_map]
  rfl
theorem keyL_inj {a b : List Str} (h : keyL a = keyL b) : a = b := by
  have h2 := congrArg (List.map kV) h
  rw [keyL_kV, keyL_kV] at h2
  exact map_str_inj h2
where
  map_str_inj : ∀ {a b : List Str}, a.map V.str = b.map V.str → a = b
    | [], [], _ => rfl
    | [], _ :: _, h => by cases h
    | _ :: _, [], h => by cases h
    | x :: a, y :: b, h => by
      have h1 := List.cons.inj h
      rw [V.str.inj h1.1, map_str_inj h1.2]
theorem getX_none {xs : List XEn} {k : List Key} (h : k ∉ xs.map (·.1)) : getX xs k = none := by
  unfold getX
  rw [List.find?_eq_none.mpr fun x m e => h (List.mem_map.mpr ⟨x, m, of_decide_eq_true e⟩)]
  rfl
theorem getX_some {xs : List XEn} {e : XEn} (nd : (xs.map (·.1)).Nodup) (m : e ∈ xs) : getX xs e.1 = some e.2.2 := by
  unfold getX
  have : xs.find? (fun x => decide (x.1 = e.1)) = some e := by
    induction xs with
    | nil => cases m
    | cons x r ih =>
      have nd' := List.nodup_cons.mp nd
      rcases List.mem_cons.mp m with rfl | m
      · rw [List.find?_cons_of_pos (by simp)]
      · have : ¬ x.1 = e.1 := fun z => nd'.1 (List.mem_map.mpr ⟨e, m, z.symm⟩)
        rw [List.find?_cons_of_neg (by simpa using this)]
        exact ih nd'.2 m
  rw [this]
  rfl
theorem putX_new {xs : List XEn} {k : List Key} {b t : Addr} (h : k ∉ xs.map (·.1)) : putX xs k b t = xs ++ [(k, b, t)] := by
  unfold putX
  rw [getX_none h, if_neg (by decide)]
theorem putX_last {xs : List XEn} {k : List Key} {b b' t t' : Addr} (h : k ∉ xs.map (·.1)) : putX (xs ++ [(k, b, t)]) k b' t' = xs ++ [(k, b, t')] := by
  have hs : (getX (xs ++ [(k, b, t)]) k).isSome = true := by
    unfold getX
    rw [List.find?_append, List.find?_eq_none.mpr fun x m e => h (List.mem_map.mpr ⟨x, m, of_decide_eq_true e⟩)]
    simp
  unfold putX
  rw [if_pos hs, List.map_append]
  congr 1
  · refine (List.map_congr_left fun x m => ?_).trans (List.map_id xs)
    rw [if_neg fun e => h (List.mem_map.mpr ⟨x, m, e⟩)]
    rfl
  · show [if k = k then (k, b, t') else (k, b, t)] = _
    rw [if_pos rfl]
structure HE where
  b : Addr
  v : Addr
  k : List Str
  o : List Str
structure SE where
  b : Addr
  d : Addr
  k : List Str
  fds : List Fld
def HE.x (e : HE) : XEn := (keyL e.k, e.b, e.v)
def SE.x (e : SE) : XEn := (keyL e.k, e.b, e.d)
def rfs (hd sh la : Addr) : List (Str × V) := [("headings", V.ref hd), ("shapes", V.ref sh), ("last_heading", V.ref la)]
structure RdS (P : Program) (w : World) (K : PySem.W.Frag) (C : Addr) (H0 H : Hp) (x dx hd sh la : Addr) (hp : List HE) (sp : List SE) (st : PSt) : Prop where
  sm : Same H0 H
  nx : H0 x = none
  nh : H0 hd = none
  ns : H0 sh = none
  hx : H x = some (.ins C dx (rfs hd sh la))
  hh : H hd = some (dX P w hd (hp.map HE.x))
  hs : H sh = some (dX P w sh (sp.map SE.x))
  ne : hd ≠ sh
  hk : ∀ e ∈ hp, SqT K H e.b (e.k.map V.str) ∧ H e.v = some (.tup (e.o.map V.str))
  sk : ∀ e ∈ sp, SqT K H e.b (e.k.map V.str) ∧ FldAt H e.d e.fds ∧ H0 e.d = none
  sd : (sp.map SE.d).Nodup
  sn : (sp.map SE.k).Nodup
  lk : SqT K H la (st.la.map V.str)
  e1 : hp.map (fun e => (e.k, e.o)) = st.hs
  e2 : sp.map (fun e => (e.k, cfs e.fds)) = st.ss
  fh : hp.length ≤ 200
  fs : sp.length ≤ 200
theorem dX_tup {P : Program} {w : World} {a : Addr} {xs : List XEn} : (∀ ys, dX P w a xs ≠ .tup ys) ∧ (∀ q ys, dX P w a xs ≠ .frz q (.tup ys)) ∧ (∀ ys, dX P w a xs ≠ .dK ys) ∧ (∀ ys, dX P w a xs ≠ .lst ys) ∧ ∀ p q r, dX P w a xs ≠ .ins p q r :=
  ⟨(fun _ e => nomatch e), (fun _ _ e => nomatch e), (fun _ e => nomatch e), (fun _ e => nomatch e), fun _ _ _ e => nomatch e⟩
theorem sq_upd {K : PySem.W.Frag} {H : Hp} {a b : Addr} {o o' : HO} {xs : List V} (e : H a = some o) (n1 : ∀ ys, o ≠ .tup ys) (n2 : ∀ q ys, o ≠ .frz q (.tup ys)) (h : SqT K H b xs) : SqT K (upd H a o') b xs := by
  rcases h with (h | ⟨q, h⟩) | h
  · exact .inl (.inl (by rw [upd_ne (ne_of h e fun z => n1 _ z.symm)]; exact h))
  · exact .inl (.inr ⟨q, by rw [upd_ne (ne_of h e fun z => n2 _ _ z.symm)]; exact h⟩)
  · exact .inr h
theorem sq_sameT {K : PySem.W.Frag} {H H' : Hp} {b : Addr} {xs : List V} (s : Same H H') (h : SqT K H b xs) : SqT K H' b xs := by
  rcases h with (h | ⟨q, h⟩) | h
  · exact .inl (.inl (s _ _ h))
  · exact .inl (.inr ⟨q, s _ _ h⟩)
  · exact .inr h
section
variable {P : Program} {w : World} {K : PySem.W.Frag} {C : Addr} {H0 H : Hp} {x dx hd sh la : Addr} {hp : List HE} {sp : List SE} {st : PSt}
theorem RdS.same {H' : Hp} (r : RdS P w K C H0 H x dx hd sh la hp sp st) (s : Same H H') : RdS P w K C H0 H' x dx hd sh la hp sp st :=
  { r with sm := r.sm.trans s, hx := s _ _ r.hx, hh := s _ _ r.hh, hs := s _ _ r.hs, hk := fun e m => ⟨sq_sameT s (r.hk e m).1, s _ _ (r.hk e m).2⟩, sk := fun e m => ⟨sq_sameT s (r.sk e m).1, (r.sk e m).2.1.same s, (r.sk e m).2.2⟩, lk := sq_sameT s r.lk }
theorem RdS.keysH (r : RdS P w K C H0 H x dx hd sh la hp sp st) : KeysX K H (hp.map HE.x) := fun e m => by
  obtain ⟨y, my, rfl⟩ := List.mem_map.mp m
  show SqT K H y.b ((keyL y.k).map kV)
  rw [keyL_kV]
  exact (r.hk y my).1
theorem RdS.keysS (r : RdS P w K C H0 H x dx hd sh la hp sp st) : KeysX K H (sp.map SE.x) := fun e m => by
  obtain ⟨y, my, rfl⟩ := List.mem_map.mp m
  show SqT K H y.b ((keyL y.k).map kV)
  rw [keyL_kV]
  exact (r.sk y my).1
theorem RdS.hkeys (r : RdS P w K C H0 H x dx hd sh la hp sp st) {k : List Str} : keyL k ∈ (hp.map HE.x).map (·.1) ↔ k ∈ st.hs.map (·.1) := by
  rw [← r.e1, List.map_map, List.map_map]
  constructor
  · intro m
    obtain ⟨e, me, h⟩ := List.mem_map.mp m
    exact List.mem_map.mpr ⟨e, me, keyL_inj h⟩
  · intro m
    obtain ⟨e, me, h⟩ := List.mem_map.mp m
    exact List.mem_map.mpr ⟨e, me, congrArg keyL h⟩
theorem RdS.skeys (r : RdS P w K C H0 H x dx hd sh la hp sp st) {k : List Str} : keyL k ∈ (sp.map SE.x).map (·.1) ↔ k ∈ st.ss.map (·.1) := by
  rw [← r.e2, List.map_map, List.map_map]
  constructor
  · intro m
    obtain ⟨e, me, h⟩ := List.mem_map.mp m
    exact List.mem_map.mpr ⟨e, me, keyL_inj h⟩
  · intro m
    obtain ⟨e, me, h⟩ := List.mem_map.mp m
    exact List.mem_map.mpr ⟨e, me, congrArg keyL h⟩
/-- an update of an object that is no tuple, no dict of fields -/
theorem RdS.keep {a : Addr} {o o' : HO} (r : RdS P w K C H0 H x dx hd sh la hp sp st) (ea : H a = some o) (n1 : ∀ ys, o ≠ .tup ys) (n2 : ∀ q ys, o ≠ .frz q (.tup ys)) (n3 : ∀ ys, o ≠ .dK ys) :
    (∀ e ∈ hp, SqT K (upd H a o') e.b (e.k.map V.str) ∧ (upd H a o') e.v = some (.tup (e.o.map V.str))) ∧ (∀ e ∈ sp, SqT K (upd H a o') e.b (e.k.map V.str) ∧ FldAt (upd H a o') e.d e.fds ∧ H0 e.d = none) := by
  have oth : Oth H a := ⟨o, ea, n1, n3⟩
  exact ⟨fun e m => ⟨sq_upd ea n1 n2 (r.hk e m).1, by rw [upd_ne (ne_of (r.hk e m).2 ea fun z => n1 _ z.symm)]; exact (r.hk e m).2⟩, fun e m => ⟨sq_upd ea n1 n2 (r.sk e m).1, (r.sk e m).2.1.gr oth Gr.box, (r.sk e m).2.2⟩⟩
theorem putF_last (hd sh la b : Addr) : L2.putF "last_heading" (.ref b) (rfs hd sh la) = rfs hd sh b := by
  have h1 : ¬ ("headings" : Str) = "last_heading" := by decide +kernel
  have h2 : ¬ ("shapes" : Str) = "last_heading" := by decide +kernel
  show (if ("headings" : Str) = "last_heading" then _ else _ :: (if ("shapes" : Str) = "last_heading" then _ else _ :: (if ("last_heading" : Str) = "last_heading" then _ else _))) = _
  rw [if_neg h1, if_neg h2, if_pos rfl]
  rfl
theorem lk_h (hd sh la : Addr) : (rfs hd sh la).lookup ("headings" : Str) = some (.ref hd) := by simp [rfs, List.lookup]
theorem lk_s (hd sh la : Addr) : (rfs hd sh la).lookup ("shapes" : Str) = some (.ref sh) := by
  have h1 : (("shapes" : Str) == "headings") = false := beq_eq_false_iff_ne.mpr (by decide +kernel)
  simp [rfs, List.lookup, h1]
theorem lk_l (hd sh la : Addr) : (rfs hd sh la).lookup ("last_heading" : Str) = some (.ref la) := by
  have h1 : (("last_heading" : Str) == "headings") = false := beq_eq_false_iff_ne.mpr (by decide +kernel)
  have h2 : (("last_heading" : Str) == "shapes") = false := beq_eq_false_iff_ne.mpr (by decide +kernel)
  simp [rfs, List.lookup, h1, h2]
theorem RdS.setLast (r : RdS P w K C H0 H x dx hd sh la hp sp st) {b : Addr} {k : List Str} (hb : SqT K H b (k.map V.str)) : RdS P w K C H0 (upd H x (.ins C dx (rfs hd sh b))) x dx hd sh b hp sp { st with la := k } := by
  have n1 : ∀ ys, (HO.ins C dx (rfs hd sh la)) ≠ .tup ys := fun _ e => nomatch e
  have n2 : ∀ q ys, (HO.ins C dx (rfs hd sh la)) ≠ .frz q (.tup ys) := fun _ _ e => nomatch e
  obtain ⟨k1, k2⟩ := r.keep (o' := .ins C dx (rfs hd sh b)) r.hx n1 n2 (fun _ e => nomatch e)
  have xh : hd ≠ x := ne_of r.hh r.hx (dX_tup.2.2.2.2 _ _ _)
  have xs : sh ≠ x := ne_of r.hs r.hx (dX_tup.2.2.2.2 _ _ _)
  exact { r with sm := same_upd r.sm r.nx, hx := upd_same, hh := by rw [upd_ne xh]; exact r.hh, hs := by rw [upd_ne xs]; exact r.hs, hk := k1, sk := k2, lk := sq_upd r.hx n1 n2 hb, e1 := r.e1, e2 := r.e2 }
theorem RdS.addHead (r : RdS P w K C H0 H x dx hd sh la hp sp st) {v : Addr} {o : List Str} (hv : H v = some (.tup (o.map V.str))) (nk : st.la ∉ st.hs.map (·.1)) (few : hp.length < 200) :
    RdS P w K C H0 (upd H hd (dX P w hd (putX (hp.map HE.x) (keyL st.la) la v))) x dx hd sh la (hp ++ [⟨la, v, st.la, o⟩]) sp { st with hs := st.hs ++ [(st.la, o)] } := by
  rw [putX_new (fun m => nk (r.hkeys.mp m))]
  obtain ⟨n1, n2, n3, _, n5⟩ := @dX_tup P w hd (hp.map HE.x)
  obtain ⟨k1, k2⟩ := r.keep (o' := dX P w hd (hp.map HE.x ++ [(keyL st.la, la, v)])) r.hh n1 n2 n3
  have xh : x ≠ hd := ne_of r.hx r.hh (fun z => n5 _ _ _ z.symm)
  refine { r with sm := same_upd r.sm r.nh, hx := by rw [upd_ne xh]; exact r.hx, hh := ?_, hs := by rw [upd_ne (fun z => r.ne z.symm)]; exact r.hs, hk := fun e m => ?_, sk := k2, lk := sq_upd r.hh n1 n2 r.lk, e1 := ?_, e2 := r.e2, fh := ?_ }
  · rw [upd_same, List.map_append]
    rfl
  · rcases List.mem_append.mp m with m | m
    · exact k1 e m
    · rw [List.mem_singleton.mp m]
      exact ⟨sq_upd r.hh n1 n2 r.lk, by rw [upd_ne (ne_of hv r.hh fun z => n1 _ z.symm)]; exact hv⟩
  · rw [List.map_append, r.e1]
    rfl
  · rw [List.length_append]
    exact few
theorem RdS.setHead {v : Addr} {o : List Str} (r : RdS P w K C H0 H x dx hd sh la (hp ++ [⟨la, v, st.la, o⟩]) sp { st with hs := st.hs ++ [(st.la, o)] }) {v' : Addr} {o' : List Str} (hv : H v' = some (.tup (o'.map V.str))) (nk : st.la ∉ st.hs.map (·.1)) :
    RdS P w K C H0 (upd H hd (dX P w hd (putX ((hp ++ [HE.mk la v st.la o]).map HE.x) (keyL st.la) la v'))) x dx hd sh la (hp ++ [⟨la, v', st.la, o'⟩]) sp { st with hs := st.hs ++ [(st.la, o')] } := by
  have e1 : hp.map (fun e => (e.k, e.o)) = st.hs := by
    have := r.e1
    rw [List.map_append] at this
    exact (List.append_inj' this rfl).1
  have nk' : keyL st.la ∉ (hp.map HE.x).map (·.1) := fun m => by
    rw [List.map_map] at m
    obtain ⟨e, me, h⟩ := List.mem_map.mp m
    refine nk ?_
    rw [← e1, List.map_map]
    exact List.mem_map.mpr ⟨e, me, keyL_inj h⟩
  have ex : (hp ++ [HE.mk la v st.la o]).map HE.x = hp.map HE.x ++ [(keyL st.la, la, v)] := by rw [List.map_append]; rfl
  rw [ex, putX_last nk']
  obtain ⟨n1, n2, n3, _, n5⟩ := @dX_tup P w hd ((hp ++ [HE.mk la v st.la o]).map HE.x)
  obtain ⟨k1, k2⟩ := r.keep (o' := dX P w hd (hp.map HE.x ++ [(keyL st.la, la, v')])) r.hh n1 n2 n3
  have xh : x ≠ hd := ne_of r.hx r.hh (fun z => n5 _ _ _ z.symm)
  have f := r.fh
  rw [List.length_append] at f
  refine { r with sm := same_upd r.sm r.nh, hx := by rw [upd_ne xh]; exact r.hx, hh := ?_, hs := by rw [upd_ne (fun z => r.ne z.symm)]; exact r.hs, hk := fun e m => ?_, sk := k2, lk := sq_upd r.hh n1 n2 r.lk, e1 := ?_, e2 := r.e2, fh := ?_ }
  · rw [upd_same, List.map_append]
    rfl
  · rcases List.mem_append.mp m with m | m
    · exact k1 e (List.mem_append_left _ m)
    · rw [List.mem_singleton.mp m]
      exact ⟨sq_upd r.hh n1 n2 r.lk, by rw [upd_ne (ne_of hv r.hh fun z => n1 _ z.symm)]; exact hv⟩
  · rw [List.map_append, e1]
    rfl
  · rw [List.length_append]
    exact f
theorem RdS.addShape (r : RdS P w K C H0 H x dx hd sh la hp sp st) {d : Addr} (n : H d = none) (nk : st.la ∉ st.ss.map (·.1)) (few : sp.length < 200) :
    RdS P w K C H0 (upd (upd H d (.dK [])) sh (dX P w sh (putX (sp.map SE.x) (keyL st.la) la d))) x dx hd sh la hp (sp ++ [⟨la, d, st.la, []⟩]) { st with ss := st.ss ++ [(st.la, [])] } := by
  rw [putX_new (fun m => nk (r.skeys.mp m))]
  have sn := same_new (o := .dK []) n
  have r' := r.same sn
  have ed : (upd H d (.dK [])) d = some (.dK []) := upd_same
  generalize upd H d (.dK []) = H1 at sn r' ed
  obtain ⟨n1, n2, n3, _, n5⟩ := @dX_tup P w sh (sp.map SE.x)
  obtain ⟨k1, k2⟩ := r'.keep (o' := dX P w sh (sp.map SE.x ++ [(keyL st.la, la, d)])) r'.hs n1 n2 n3
  have xh : x ≠ sh := ne_of r'.hx r'.hs (fun z => n5 _ _ _ z.symm)
  have ds : d ≠ sh := ne_of ed r'.hs (fun z => n3 _ z.symm)
  refine { r' with sm := same_upd r'.sm r.ns, hx := by rw [upd_ne xh]; exact r'.hx, hh := by rw [upd_ne r.ne]; exact r'.hh, hs := ?_, hk := k1, sk := fun e m => ?_, sd := ?_, sn := ?_, lk := sq_upd r'.hs n1 n2 r'.lk, e1 := r.e1, e2 := ?_, fs := ?_ }
  · rw [upd_same, List.map_append]
    rfl
  · rcases List.mem_append.mp m with m | m
    · exact k2 e m
    · rw [List.mem_singleton.mp m]
      exact ⟨sq_upd r'.hs n1 n2 r'.lk, ⟨by rw [upd_ne ds]; exact ed, fun f m => nomatch m⟩, r.sm.free n⟩
  · rw [List.map_append]
    refine List.nodup_append.mpr ⟨r.sd, by simp, fun a ma b mb e => ?_⟩
    rw [List.mem_singleton.mp mb] at e
    obtain ⟨y, my, rfl⟩ := List.mem_map.mp ma
    have := (r.sk y my).2.1.at_
    have e' : y.d = d := e
    rw [e', n] at this
    cases this
  · rw [List.map_append]
    refine List.nodup_append.mpr ⟨r.sn, by simp, fun a ma b mb e => ?_⟩
    rw [List.mem_singleton.mp mb] at e
    obtain ⟨y, my, rfl⟩ := List.mem_map.mp ma
    have e' : y.k = st.la := e
    refine nk ?_
    rw [← r.e2, List.map_map]
    exact List.mem_map.mpr ⟨y, my, e'⟩
  · rw [List.map_append, r.e2]
    rfl
  · rw [List.length_append]
    exact few
/-- a field put -/
theorem RdS.putField (r : RdS P w K C H0 H x dx hd sh la hp sp st) {e : SE} (me : e ∈ sp) (ek : e.k = st.la) {g : Str} {u : V} {s : Shp} (hu : ShAt H u s) :
    RdS P w K C H0 (upd H e.d (.dK (fkv (e.fds ++ [(g, u, s)])))) x dx hd sh la hp (sp.map fun y => if y.k = st.la then { y with fds := y.fds ++ [(g, u, s)] } else y) { st with ss := st.ss.map fun y => if y.1 = st.la then (y.1, y.2 ++ [(g, s)]) else y } := by
  obtain ⟨_, he, hn⟩ := r.sk e me
  have n1 : ∀ ys, (HO.dK (fkv e.fds)) ≠ .tup ys := fun _ z => nomatch z
  have n2 : ∀ q ys, (HO.dK (fkv e.fds)) ≠ .frz q (.tup ys) := fun _ _ z => nomatch z
  have xh : x ≠ e.d := ne_of r.hx he.at_ (fun z => nomatch z)
  have hh : hd ≠ e.d := ne_of r.hh he.at_ (dX_tup.2.2.1 _)
  have hs : sh ≠ e.d := ne_of r.hs he.at_ (dX_tup.2.2.1 _)
  have shk : ∀ {v : V} {t : Shp}, ShAt H v t → ShAt (upd H e.d (.dK (fkv (e.fds ++ [(g, u, s)])))) v t := fun h => h.gr (xs := []) (.inr ⟨_, he.at_⟩) Gr.box
  have same : ∀ y ∈ sp, y.k = st.la → y = e := fun y my yk => map_uniq r.sn my me (yk.trans ek.symm)
  have exx : (sp.map fun y => if y.k = st.la then { y with fds := y.fds ++ [(g, u, s)] } else y).map SE.x = sp.map SE.x := by
    rw [List.map_map]
    refine List.map_congr_left fun y my => ?_
    show SE.x (if y.k = st.la then { y with fds := y.fds ++ [(g, u, s)] } else y) = y.x
    split <;> rfl
  have exd : (sp.map fun y => if y.k = st.la then { y with fds := y.fds ++ [(g, u, s)] } else y).map SE.d = sp.map SE.d := by
    rw [List.map_map]
    refine List.map_congr_left fun y my => ?_
    show SE.d (if y.k = st.la then { y with fds := y.fds ++ [(g, u, s)] } else y) = y.d
    split <;> rfl
  have exk : (sp.map fun y => if y.k = st.la then { y with fds := y.fds ++ [(g, u, s)] } else y).map SE.k = sp.map SE.k := by
    rw [List.map_map]
    refine List.map_congr_left fun y my => ?_
    show SE.k (if y.k = st.la then { y with fds := y.fds ++ [(g, u, s)] } else y) = y.k
    split <;> rfl
  refine { r with sm := same_upd r.sm hn, hx := by rw [upd_ne xh]; exact r.hx, hh := by rw [upd_ne hh]; exact r.hh, hs := ?_, hk := fun y m => ⟨sq_upd he.at_ n1 n2 (r.hk y m).1, by rw [upd_ne (ne_of (r.hk y m).2 he.at_ fun z => nomatch z)]; exact (r.hk y m).2⟩, sk := fun y m => ?_, sd := by rw [exd]; exact r.sd, sn := by rw [exk]; exact r.sn, lk := sq_upd he.at_ n1 n2 r.lk, e1 := r.e1, e2 := ?_, fs := by rw [List.length_map]; exact r.fs }
  · rw [upd_ne hs, exx]
    exact r.hs
  · obtain ⟨z, mz, rfl⟩ := List.mem_map.mp m
    obtain ⟨a1, a2, a3⟩ := r.sk z mz
    by_cases hz : z.k = st.la
    · rw [if_pos hz]
      cases same z mz hz
      refine ⟨sq_upd he.at_ n1 n2 a1, ⟨upd_same, fun f m => ?_⟩, a3⟩
      rcases List.mem_append.mp m with m | m
      · exact shk (a2.sh f m)
      · rw [List.mem_singleton.mp m]
        exact shk hu
    · rw [if_neg hz]
      have nd : z.d ≠ e.d := fun h => hz (by rw [map_uniq r.sd mz me h]; exact ek)
      exact ⟨sq_upd he.at_ n1 n2 a1, ⟨by rw [upd_ne nd]; exact a2.at_, fun f m => shk (a2.sh f m)⟩, a3⟩
  · show _ = st.ss.map fun y => if y.1 = st.la then (y.1, y.2 ++ [(g, s)]) else y
    rw [← r.e2, List.map_map, List.map_map]
    refine List.map_congr_left fun y my => ?_
    show ((fun e : SE => (e.k, cfs e.fds)) (if y.k = st.la then { y with fds := y.fds ++ [(g, u, s)] } else y)) = (if y.k = st.la then (y.k, cfs y.fds ++ [(g, s)]) else (y.k, cfs y.fds))
    split
    · show (y.k, cfs (y.fds ++ [(g, u, s)])) = _
      unfold cfs
      rw [List.map_append]
      rfl
    · rfl
end
end NW
namespace NW
open PySem PySem.Spec PyProof.Rows L2
open TL (tl)
open StX (pa_star)
abbrev s_SchemaReading_init : Stmt := inClass (topS 44) 0
abbrev N_SchemaReading_init : List Str := ["self"]
theorem sc_SchemaReading_init : FnScope N_SchemaReading_init ["self"] (defScope s_SchemaReading_init) := ⟨rfl, rfl, rfl, by decide +kernel, rfl, by decide +kernel, by decide +kernel⟩
abbrev s_SchemaReading_has_room : Stmt := inClass (topS 44) 1
abbrev N_SchemaReading_has_room : List Str := ["self", "words"]
theorem sc_SchemaReading_has_room : FnScope N_SchemaReading_has_room ["self", "words"] (defScope s_SchemaReading_has_room) := ⟨rfl, rfl, rfl, by decide +kernel, rfl, by decide +kernel, by decide +kernel⟩
abbrev s_SchemaReading_take_line : Stmt := inClass (topS 44) 2
abbrev N_SchemaReading_take_line : List Str := ["self", "words"]
theorem sc_SchemaReading_take_line : FnScope N_SchemaReading_take_line ["self", "words"] (defScope s_SchemaReading_take_line) := ⟨rfl, rfl, rfl, by decide +kernel, rfl, by decide +kernel, by decide +kernel⟩
theorem op_inX {X : Cx} (hu : X.A.units + 1 < cLine) : OpR X (compareOp .In) (rInX X.prog X.w X.K false) := by
  intro pins s σ H y x u v Q I ry rx h
  obtain ⟨a, b, xs, k, rfl, rfl, ea, ks, eb, q⟩ := h
  cases rx
  cases ry
  obtain ⟨ns, few, d⟩ := dX_at I ea ks
  refine wpAny_in_heap (tupleKind_room_in1 hu) (keyS I eb) ns d ?_
  rw [atKey_some]
  exact ⟨.bl _, H, I.tok _, rfl, by simpa using q⟩
theorem pe_dnewXP {X : Cx} (P : Program) (w : World) {pos : Pos} (h1 : X.prog = P := by rfl) (h2 : X.w = w := by rfl) : PE X (.Dict [] [] pos) (tDNewX P w) := by
  subst h1 h2
  exact pe_dnewX
theorem set_dXP {X : Cx} (P : Program) (w : World) (K : PySem.W.Frag) (hu : X.A.units + 1 < cLine) (h1 : X.prog = P := by rfl) (h2 : X.w = w := by rfl) (h3 : X.K = K := by rfl) : PSet X (rSetX P w K) := by
  subst h1 h2 h3
  exact set_dX hu
structure RC (K : PySem.W.Frag) (C : Addr) : Prop where
  cl : Cls K C
  nh : NoAttr K C "headings"
  ns : NoAttr K C "shapes"
  nl : NoAttr K C "last_heading"
/-- the key of a heading -/
def hkey (w0 n : Str) : List Str := if w0 = "root" then kR else [w0, n]
theorem hkey_root (n : Str) : hkey "root" n = kR := if_pos rfl
theorem hkey_else {w0 : Str} (n : Str) (h : ¬ w0 = "root") : hkey w0 n = [w0, n] := if_neg h
theorem get_sp {P : Program} {w : World} {K : PySem.W.Frag} {C : Addr} {H0 H : Hp} {x dx hd sh la : Addr} {hp : List HE} {sp : List SE} {st : PSt} (r : RdS P w K C H0 H x dx hd sh la hp sp st) {e : SE} (me : e ∈ sp) : getX (sp.map SE.x) (keyL e.k) = some e.d := by
  have nd : ((sp.map SE.x).map (·.1)).Nodup := by
    rw [List.map_map]
    have : (sp.map SE.k).Nodup := r.sn
    have h2 := (List.Pairwise.map (R := fun a b : List Str => a ≠ b) (S := fun a b : List Key => a ≠ b) keyL (fun a b h e => h (keyL_inj e)) this)
    rw [List.map_map] at h2
    exact h2
  exact getX_some (e := e.x) nd (List.mem_map.mpr ⟨e, me, rfl⟩)
section
variable {P : Program} {w : World} {K : PySem.W.Frag} {mg : Str → Option Value} {base : Heap}
def sp_heading2 (K : PySem.W.Frag) : Sp := fun vs H Q _ => ∃ (a : Addr) (w0 n : Str) (rest : List Str), vs = [.ref a] ∧ H a = some (.lst ((w0 :: n :: rest).map V.str)) ∧ ∀ b H', Same H H' → SqT K H' b ((hkey w0 n).map V.str) → Q (.ref b) H'
theorem heading2 {CX : CXT} {j : Nat} {f : Addr} {fd : FuncData} {ps : List Str} (G : FnOk P w K mg base CX j f fd ps (sp_heading_of K)) : FnOk P w K mg base CX j f fd ps (sp_heading2 K) := G.imp fun vs H Q E h => by
  obtain ⟨a, w0, n, rest, rfl, ha, q⟩ := h
  refine ⟨a, w0, n, rest, rfl, ha, ?_⟩
  by_cases hw : w0 = "root"
  · exact .inl ⟨hw, fun r hr => q r H (Same.refl _) (by rw [hw, hkey_root]; exact hr H)⟩
  · exact .inr ⟨hw, fun p np => q p _ (same_new np) (by rw [hkey_else n hw]; exact .inl (.inl upd_same))⟩
def sp_rd_init (P : Program) (w : World) (C : Addr) : Sp := fun vs H Q _ => ∃ (x dx : Addr), vs = [.ref x] ∧ H x = some (.ins C dx []) ∧
  ∀ H' hd sh la, Gr x H H' → H hd = none → H sh = none → hd ≠ sh → H' x = some (.ins C dx (rfs hd sh la)) → H' hd = some (dX P w hd []) → H' sh = some (dX P w sh []) → H' la = some (.tup []) → Q .non H'
theorem ok_rd_init {f C : Addr} {fd : FuncData} (F : Fun K "__init__" "SchemaReading.__init__" s_SchemaReading_init f fd) (L : RC K C) : FnOk P w K mg base CX0 1 f fd ["self"] (sp_rd_init P w C) := by
  refine F.ok sc_SchemaReading_init (fun vs H Q E h => ?_) (fun cdv A outer s H vs Q E hr h => ?_)
  · obtain ⟨x, dx, rfl, _⟩ := h
    rfl
  · obtain ⟨x, dx, rfl, hx, q⟩ := h
    refine ⟨_, (pss_cons (ps_fld (pv 0) (pe_dnewXP P w) rfl)
      (pss_cons (ps_fld (pv 0) (pe_dnewXP P w) rfl)
      (pss_one (ps_fld (pv 0) (pe_tup pa_nil) rfl)))), ?_⟩
    have hS : ∀ n : Nat, n ≤ 1000 → n ≤ sizeLine := fun n h => Nat.le_trans h (by decide)
    have h1 : ¬ ("headings" : Str) = "shapes" := by decide +kernel
    have h2 : ¬ ("headings" : Str) = "last_heading" := by decide +kernel
    have h3 : ¬ ("shapes" : Str) = "last_heading" := by decide +kernel
    refine fun hd nh => ⟨.ref x, rfl, x, C, dx, [], rfl, (same_new nh) _ _ hx, L.cl, L.nh, by show 0 < 1000; decide, ?_⟩
    have xh : hd ≠ x := fun z => by rw [z, hx] at nh; cases nh
    have g1 : Gr x H (upd (upd H hd (dX P w hd [])) x (.ins C dx (L2.putF "headings" (.ref hd) []))) := (Gr.new nh).trans Gr.box
    have e1 : (upd (upd H hd (dX P w hd [])) x (.ins C dx (L2.putF "headings" (.ref hd) []))) hd = some (dX P w hd []) := by rw [upd_ne xh, upd_same]
    have x1 : (upd (upd H hd (dX P w hd [])) x (.ins C dx (L2.putF "headings" (.ref hd) []))) x = some (.ins C dx [("headings", .ref hd)]) := upd_same
    generalize upd (upd H hd (dX P w hd [])) x (.ins C dx (L2.putF "headings" (.ref hd) [])) = H1 at g1 e1 x1
    refine fun sh ns => ⟨.ref x, rfl, x, C, dx, _, rfl, (same_new ns) _ _ x1, L.cl, L.ns, by show 1 < 1000; decide, ?_⟩
    have xs : sh ≠ x := fun z => by rw [z, x1] at ns; cases ns
    have hs : hd ≠ sh := fun z => by rw [← z, e1] at ns; cases ns
    have ns0 : H sh = none := g1.free xs ns
    have p2 : L2.putF "shapes" (.ref sh) [("headings", V.ref hd)] = [(("headings" : Str), V.ref hd), ("shapes", V.ref sh)] := by
      show (if ("headings" : Str) = "shapes" then _ else _) = _
      rw [if_neg h1]
      rfl
    have g2 : Gr x H (upd (upd H1 sh (dX P w sh [])) x (.ins C dx (L2.putF "shapes" (.ref sh) [("headings", V.ref hd)]))) := (g1.trans (Gr.new ns)).trans Gr.box
    have e2 : (upd (upd H1 sh (dX P w sh [])) x (.ins C dx (L2.putF "shapes" (.ref sh) [("headings", V.ref hd)]))) hd = some (dX P w hd []) := by rw [upd_ne xh, upd_ne hs]; exact e1
    have e3 : (upd (upd H1 sh (dX P w sh [])) x (.ins C dx (L2.putF "shapes" (.ref sh) [("headings", V.ref hd)]))) sh = some (dX P w sh []) := by rw [upd_ne xs, upd_same]
    have x2 : (upd (upd H1 sh (dX P w sh [])) x (.ins C dx (L2.putF "shapes" (.ref sh) [("headings", V.ref hd)]))) x = some (.ins C dx [("headings", V.ref hd), ("shapes", V.ref sh)]) := by rw [upd_same, p2]
    generalize upd (upd H1 sh (dX P w sh [])) x (.ins C dx (L2.putF "shapes" (.ref sh) [("headings", V.ref hd)])) = H2 at g2 e2 e3 x2
    refine ⟨hS 0 (by decide), fun la nl => ⟨.ref x, rfl, x, C, dx, _, rfl, (same_new nl) _ _ x2, L.cl, L.nl, by show 2 < 1000; decide, ?_⟩⟩
    have xl : la ≠ x := fun z => by rw [z, x2] at nl; cases nl
    have hl : hd ≠ la := fun z => by rw [← z, e2] at nl; cases nl
    have sl : sh ≠ la := fun z => by rw [← z, e3] at nl; cases nl
    have p3 : L2.putF "last_heading" (.ref la) [(("headings" : Str), V.ref hd), ("shapes", V.ref sh)] = rfs hd sh la := by
      show (if ("headings" : Str) = "last_heading" then _ else _ :: (if ("shapes" : Str) = "last_heading" then _ else _)) = _
      rw [if_neg h2, if_neg h3]
      rfl
    refine q _ hd sh la ((g2.trans (Gr.new nl)).trans Gr.box) nh ns0 hs ?_ ?_ ?_ ?_
    · rw [upd_same, p3]
    · rw [upd_ne xh, upd_ne hl]; exact e2
    · rw [upd_ne xs, upd_ne sl]; exact e3
    · rw [upd_ne xl, upd_same]
def sp_has_room (P : Program) (w : World) (K : PySem.W.Frag) (C : Addr) : Sp := fun vs H Q _ => ∃ (x a dx hd sh la : Addr) (H0 : Hp) (hp : List HE) (sp : List SE) (st : PSt) (l : Ln), vs = [.ref x, .ref a] ∧ H a = some (.lst (l.ws.map V.str)) ∧ RdS P w K C H0 H x dx hd sh la hp sp st ∧ pok st l ∧
  ∀ H', Same H H' → Q (.bl true) H'
theorem pok_head {st : PSt} {w0 n : Str} {l : Ln} {rest : List Str} (h : pok st l) (e : l.ws = w0 :: n :: rest) (nf : ¬ w0 = "field") : hkey w0 n ∉ st.hs.map (·.1) := by
  have k1 : ¬ ("kind" : Str) = "root" := by decide +kernel
  have k2 : ¬ ("face" : Str) = "root" := by decide +kernel
  have k3 : ¬ ("union" : Str) = "root" := by decide +kernel
  cases l with
  | kind m fc =>
    obtain ⟨e1, e2⟩ := List.cons.inj e
    obtain ⟨e2, e3⟩ := List.cons.inj e2
    subst e1 e2
    rw [hkey_else _ k1]
    exact h.1
  | face m =>
    obtain ⟨e1, e2⟩ := List.cons.inj e
    obtain ⟨e2, e3⟩ := List.cons.inj e2
    subst e1 e2
    rw [hkey_else _ k2]
    exact h.1
  | union m ms =>
    obtain ⟨e1, e2⟩ := List.cons.inj e
    obtain ⟨e2, e3⟩ := List.cons.inj e2
    subst e1 e2
    rw [hkey_else _ k3]
    exact h
  | root m =>
    obtain ⟨e1, e2⟩ := List.cons.inj e
    obtain ⟨e2, e3⟩ := List.cons.inj e2
    subst e1 e2
    rw [hkey_root]
    exact h
  | fld f =>
    obtain ⟨e1, e2⟩ := List.cons.inj e
    exact absurd e1.symm nf
theorem ok_has_room {f f1 C : Addr} {fd fd1 : FuncData} (F : Fun K "has_room" "SchemaReading.has_room" s_SchemaReading_has_room f fd) (D_heading_of : Df K mg "heading_of" s_heading_of f1 fd1 ["words"]) (G_heading_of : FnOk P w K mg base CX0 1 f1 fd1 ["words"] (sp_heading2 K)) (T : Nms mg) (L : RC K C) :
    FnOk P w K mg base CX0 2 f fd ["self", "words"] (sp_has_room P w K C) := by
  refine F.ok sc_SchemaReading_has_room (fun vs H Q E h => ?_) (fun cdv A outer s H vs Q E hr h => ?_)
  · obtain ⟨x, a, dx, hd, sh, la, H0, hp, sp, st, l, rfl, _⟩ := h
    rfl
  · obtain ⟨x, a, dx, hd, sh, la, H0, hp, sp, st, l, rfl, ha, r, pk, q⟩ := h
    have hu := hu_of hr
    refine ⟨_, (pss_cons (ps_if (pt_cmpR op_eq (pe_ix ix_list (pv 1) pe_int (fun _ _ => rfl)) pe_str (nomark _))
       (pss_one (ps_ret (pe_and (pe_cmpR (op_inX hu) (pe_fld (pv 0) rfl) (pe_fld (pv 0) rfl) (by rfl)) (pe_one (pe_cmp (pc_dnotin hu (pe_ix ix_list (pv 1) pe_int (fun _ _ => rfl)) (pe_dgetX2 hu (pe_fld (pv 0) rfl) (pe_fld (pv 0) rfl) (fun _ _ => rfl))) rfl)))))
       pss_nil)
      (pss_one (ps_ret (pe_cmpR (op_notInX hu) (pe_call G_heading_of (hr.mono (by decide)) (by rfl) D_heading_of.g D_heading_of.F.kp D_heading_of.b .nil pass0 (pa_cons (pv 1) pa_nil)) (pe_fld (pv 0) rfl) (by rfl))))), ?_⟩
    obtain ⟨w0, n, rest, ew⟩ : ∃ w0 n rest, l.ws = w0 :: n :: rest := by cases l <;> exact ⟨_, _, _, rfl⟩
    by_cases nf : w0 = "field"
    · subst nf
      have ⟨g, hl⟩ : ∃ g, l = .fld g := by
        cases l with
        | fld g => exact ⟨g, rfl⟩
        | kind m fc => exact absurd (List.cons.inj ew).1 (by decide +kernel)
        | face m => exact absurd (List.cons.inj ew).1 (by decide +kernel)
        | union m ms => exact absurd (List.cons.inj ew).1 (by decide +kernel)
        | root m => exact absurd (List.cons.inj ew).1 (by decide +kernel)
      subst hl
      obtain ⟨fdl, m1, m2, m3⟩ := pk
      rw [← r.e2] at m1
      obtain ⟨e, me, ee⟩ := List.mem_map.mp m1
      have ek : e.k = st.la := (Prod.mk.inj ee).1
      have ef : cfs e.fds = fdl := (Prod.mk.inj ee).2
      have lk := r.lk
      rw [← keyL_kV] at lk
      have gs : getX (sp.map SE.x) (keyL st.la) = some e.d := by rw [← ek]; exact get_sp r me
      have hv : valV (fkv e.fds) (Sum.inr g.1) = none := valV_out (f := fun f : Fld => f.1) (g := fun f => f.2.1) (by rw [← cfs_names, ef]; exact m2)
      refine ⟨.ref a, rfl, a, _, 0, _, rfl, rfl, SqL.of ha, atI_nat (j := 0) rfl, rfl, true, blT rfl, iteT ⟨.ref x, rfl, x, C, dx, _, _, rfl, r.hx, L.cl, L.nl, lk_l .., .ref x, rfl, x, C, dx, _, _, rfl, r.hx, L.cl, L.ns, lk_s .., sh, la, sp.map SE.x, keyL st.la, rfl, rfl, r.hs, r.keysS, lk, ?_⟩⟩
      rw [gs]
      refine ⟨true, rfl, iteT ⟨.ref a, rfl, a, _, 1, _, rfl, rfl, SqL.of ha, atI_nat (j := 1) rfl, .ref x, rfl, x, C, dx, _, _, rfl, r.hx, L.cl, L.ns, lk_s .., .ref x, rfl, x, C, dx, _, _, rfl, r.hx, L.cl, L.nl, lk_l .., sh, la, e.d, sp.map SE.x, keyL st.la, rfl, rfl, r.hs, r.keysS, lk, gs, e.d, _, rfl, .inl ⟨fkv e.fds, .inr g.1, .inl (r.sk e me).2.1.at_, rfl, hv.symm⟩, q _ (Same.refl _)⟩⟩
    · rw [ew] at ha
      refine ⟨.ref a, rfl, a, _, 0, _, rfl, rfl, SqL.of ha, atI_nat (j := 0) rfl, rfl, false, blF (fun e => nf (V.str.inj e)), iteF ⟨.ref a, rfl, a, w0, n, rest, rfl, ha, fun b H1 s1 hb => ?_⟩⟩
      rw [← keyL_kV] at hb
      have r1 := r.same s1
      refine ⟨.ref x, rfl, x, C, dx, _, _, rfl, r1.hx, L.cl, L.nh, lk_h .., hd, b, hp.map HE.x, keyL (hkey w0 n), rfl, rfl, r1.hh, r1.keysH, hb, ?_⟩
      rw [getX_none (fun m => pok_head pk ew nf (r.hkeys.mp m))]
      exact q _ s1
def Ln.oth : Ln → List Str
  | .kind _ fc => fc
  | .face _ => []
  | .union _ ms => ms
  | .root n => [n]
  | .fld _ => []
def isSh (w0 : Str) : Prop := w0 = "kind" ∨ w0 = "face"
theorem head_case {st : PSt} {l : Ln} (h : pok st l) (nf : ∀ f, l ≠ .fld f) : ∃ (w0 n : Str) (rest : List Str), l.ws = w0 :: n :: rest ∧ ¬ w0 = "field" ∧ hkey w0 n ∉ st.hs.map (·.1) ∧
    ((w0 = "root" ∧ pstep st l = ⟨st.hs ++ [(hkey w0 n, [n])], st.ss, hkey w0 n⟩) ∨ (¬ w0 = "root" ∧ (w0 = "kind" ∨ w0 = "face") ∧ hkey w0 n ∉ st.ss.map (·.1) ∧ pstep st l = ⟨st.hs ++ [(hkey w0 n, rest)], st.ss ++ [(hkey w0 n, [])], hkey w0 n⟩) ∨
      (¬ w0 = "root" ∧ ¬ w0 = "kind" ∧ ¬ w0 = "face" ∧ pstep st l = ⟨st.hs ++ [(hkey w0 n, rest)], st.ss, hkey w0 n⟩)) := by
  cases l with
  | kind m fc =>
    have k1 : ¬ ("kind" : Str) = "root" := by decide +kernel
    exact ⟨"kind", m, fc, rfl, by decide +kernel, by rw [hkey_else m k1]; exact h.1, .inr (.inl ⟨k1, .inl rfl, by rw [hkey_else m k1]; exact h.2, by rw [hkey_else m k1]; rfl⟩)⟩
  | face m =>
    have k1 : ¬ ("face" : Str) = "root" := by decide +kernel
    exact ⟨"face", m, [], rfl, by decide +kernel, by rw [hkey_else m k1]; exact h.1, .inr (.inl ⟨k1, .inr rfl, by rw [hkey_else m k1]; exact h.2, by rw [hkey_else m k1]; rfl⟩)⟩
  | union m ms =>
    have k1 : ¬ ("union" : Str) = "root" := by decide +kernel
    exact ⟨"union", m, ms, rfl, by decide +kernel, by rw [hkey_else m k1]; exact h, .inr (.inr ⟨k1, by decide +kernel, by decide +kernel, by rw [hkey_else m k1]; rfl⟩)⟩
  | root m => exact ⟨"root", m, [], rfl, by decide +kernel, by rw [hkey_root]; exact h, .inl ⟨rfl, by rw [hkey_root]; rfl⟩⟩
  | fld f => exact absurd rfl (nf f)
def sp_take_line (P : Program) (w : World) (K : PySem.W.Frag) (C : Addr) : Sp := fun vs H Q _ => ∃ (x a dx hd sh la : Addr) (H0 : Hp) (hp : List HE) (sp : List SE) (st : PSt) (l : Ln), vs = [.ref x, .ref a] ∧ H a = some (.lst (l.ws.map V.str)) ∧ RdS P w K C H0 H x dx hd sh la hp sp st ∧ pok st l ∧ hp.length ≤ 150 ∧ sp.length ≤ 150 ∧
  ∀ H' la' hp' sp', RdS P w K C H0 H' x dx hd sh la' hp' sp' (pstep st l) → hp'.length ≤ hp.length + 1 → sp'.length ≤ sp.length + 1 → Q .non H'
theorem ok_take_line {f f1 f2 C : Addr} {fd fd1 fd2 : FuncData} (F : Fun K "take_line" "SchemaReading.take_line" s_SchemaReading_take_line f fd) (D_heading_of : Df K mg "heading_of" s_heading_of f1 fd1 ["words"]) (G_heading_of : FnOk P w K mg base CX0 1 f1 fd1 ["words"] (sp_heading2 K))
    (D_shape_from : Df K mg "shape_from" s_shape_from f2 fd2 ["words"]) (G_shape_from : FnOk P w K mg base CX0 1 f2 fd2 ["words"] sp_shape_from) (T : Nms mg) (L : RC K C) :
    FnOk P w K mg base CX0 2 f fd ["self", "words"] (sp_take_line P w K C) := by
  refine F.ok sc_SchemaReading_take_line (fun vs H Q E h => ?_) (fun cdv A outer s H vs Q E hr h => ?_)
  · obtain ⟨x, a, dx, hd, sh, la, H0, hp, sp, st, l, rfl, _⟩ := h
    rfl
  · obtain ⟨x, a, dx, hd, sh, la, H0, hp, sp, st, l, rfl, ha, r, pk, few1, few2, q⟩ := h
    have hu := hu_of hr
    refine ⟨_, (pss_cons (ps_if (pt_cmpR op_eq (pe_ix ix_list (pv 1) pe_int (fun _ _ => rfl)) pe_str (nomark _))
       (pss_cons (ps_dput hu (pe_dgetX2 hu (pe_fld (pv 0) rfl) (pe_fld (pv 0) rfl) (fun _ _ => rfl)) (pe_ix ix_list (pv 1) pe_int (fun _ _ => rfl)) (pe_call G_shape_from (hr.mono (by decide)) (by rfl) D_shape_from.g D_shape_from.F.kp D_shape_from.b .nil pass0 (pa_cons (pe_slice sl_list (pv 1) (po_some pe_int) po_none) pa_nil)) rfl)
        (pss_one ps_retN))
       pss_nil)
      (pss_cons (ps_fld (pv 0) (pe_call G_heading_of (hr.mono (by decide)) (by rfl) D_heading_of.g D_heading_of.F.kp D_heading_of.b .nil pass0 (pa_cons (pv 1) pa_nil)) rfl)
      (pss_cons (ps_asg (pe_callTy call_tuple_of (by rfl) T.n_tuple (by decide +kernel) (pa_cons (pe_slice sl_list (pv 1) (po_some pe_int) po_none) pa_nil)) (pg_sub (pe_fld (pv 0) rfl) (pe_fld (pv 0) rfl) (set_dXP P w K hu)))
      (pss_cons (ps_if (pt_cmpR op_eq (pe_ix ix_list (pv 1) pe_int (fun _ _ => rfl)) pe_str (nomark _))
       (pss_one (ps_asg (pe_tup (pa_cons (pe_ix ix_list (pv 1) pe_int (fun _ _ => rfl)) pa_nil)) (pg_sub (pe_fld (pv 0) rfl) (pe_fld (pv 0) rfl) (set_dXP P w K hu))))
       pss_nil)
      (pss_one (ps_if (PW.pt (pw_or (pt_cmpR op_eq (pe_ix ix_list (pv 1) pe_int (fun _ _ => rfl)) pe_str (nomark _)) (pw_or1 (pt_cmpR op_eq (pe_ix ix_list (pv 1) pe_int (fun _ _ => rfl)) pe_str (nomark _)))))
       (pss_one (ps_asg pe_dnewK (pg_sub (pe_fld (pv 0) rfl) (pe_fld (pv 0) rfl) (set_dXP P w K hu))))
       pss_nil)))))), ?_⟩
    have hS : ∀ n : Nat, n ≤ 1000 → n ≤ sizeLine := fun n h => Nat.le_trans h (by decide)
    by_cases hf : ∃ g, l = .fld g
    · obtain ⟨g, rfl⟩ := hf
      obtain ⟨fdl, m1, m2, m3⟩ := pk
      rw [← r.e2] at m1
      obtain ⟨e, me, ee⟩ := List.mem_map.mp m1
      have ek : e.k = st.la := (Prod.mk.inj ee).1
      have ef : cfs e.fds = fdl := (Prod.mk.inj ee).2
      have gs : getX (sp.map SE.x) (keyL st.la) = some e.d := by rw [← ek]; exact get_sp r me
      have ec : cutV ((Ln.fld g).ws.map V.str) (some ((2 : Nat) : Int)) none = (shW g.2).map V.str := by rw [cut_from]; rfl
      have ec' : cutV ((Ln.fld g).ws.map V.str) (some 2) none = (shW g.2).map V.str := ec
      refine ⟨.ref a, rfl, a, _, 0, _, rfl, rfl, SqL.of ha, atI_nat (j := 0) rfl, rfl, true, blT rfl, iteT ⟨.ref a, rfl, _, rfl, a, _, rfl, SqL.of ha, fun p np => ?_⟩⟩
      rw [ec']
      have s1 := same_new (o := .lst ((shW g.2).map V.str)) np
      refine ⟨p, g.2, rfl, upd_same, fun v H2 s2 hv => ?_⟩
      have s12 := s1.trans s2
      have r2 := r.same s12
      have lk := r2.lk
      rw [← keyL_kV] at lk
      have ha2 := s12 _ _ ha
      have nin : (Sum.inr g.1 : Key) ∉ (fkv e.fds).map (·.1) := fun m => by
        rw [fkv_keys] at m
        obtain ⟨z, mz, hz⟩ := List.mem_map.mp m
        cases hz
        rw [← cfs_names, ef] at mz
        exact m2 mz
      have eput : putK (fkv e.fds) (Sum.inr g.1) v = fkv (e.fds ++ [(g.1, v, g.2)]) := by
        rw [putK_new nin]
        unfold fkv
        rw [List.map_append]
        rfl
      refine ⟨.ref x, rfl, x, C, dx, _, _, rfl, r2.hx, L.cl, L.ns, lk_s .., .ref x, rfl, x, C, dx, _, _, rfl, r2.hx, L.cl, L.nl, lk_l .., sh, la, e.d, sp.map SE.x, keyL st.la, rfl, rfl, r2.hs, r2.keysS, lk, gs, .ref a, rfl, a, _, 1, _, rfl, rfl, SqL.of ha2, atI_nat (j := 1) rfl, e.d, upd H2 e.d (.dK (fkv (e.fds ++ [(g.1, v, g.2)]))), rfl, .inl ⟨fkv e.fds, .inr g.1, (r2.sk e me).2.1.at_, rfl, ?_, by rw [eput]⟩, ?_⟩
      · refine Nat.lt_of_le_of_lt (show _ ≤ 1000 from ?_) (by decide)
        have : (cfs e.fds).length = e.fds.length := List.length_map ..
        unfold fkv
        rw [List.length_map, ← this, ef]
        omega
      · exact q _ la hp _ (r2.putField me ek hv) (Nat.le_succ _) (by rw [List.length_map]; exact Nat.le_succ _)
    · obtain ⟨w0, n, rest, ew, nf, nk, cs⟩ := head_case pk (fun f e => hf ⟨f, e⟩)
      rw [ew] at ha
      refine ⟨.ref a, rfl, a, _, 0, _, rfl, rfl, SqL.of ha, atI_nat (j := 0) rfl, rfl, false, blF (fun e => nf (V.str.inj e)), iteF ⟨.ref a, rfl, a, w0, n, rest, rfl, ha, fun b H1 s1 hb => ?_⟩⟩
      have r1 := r.same s1
      refine ⟨.ref x, rfl, x, C, dx, _, rfl, r1.hx, L.cl, L.nl, by show 3 < 1000; decide, ?_⟩
      rw [putF_last]
      have r2 := r1.setLast hb
      have ha2 : (upd H1 x (.ins C dx (rfs hd sh b))) a = some (.lst ((w0 :: n :: rest).map V.str)) := by rw [upd_ne (ne_of (s1 _ _ ha) r1.hx fun z => nomatch z)]; exact s1 _ _ ha
      generalize upd H1 x (.ins C dx (rfs hd sh b)) = H2 at r2 ha2
      generalize hkey w0 n = k at nk cs hb r2
      have ec : cutV ((w0 :: n :: rest).map V.str) (some ((2 : Nat) : Int)) none = rest.map V.str := by rw [cut_from]; rfl
      have ec' : cutV ((w0 :: n :: rest).map V.str) (some 2) none = rest.map V.str := ec
      refine ⟨.ref a, rfl, _, rfl, a, _, rfl, SqL.of ha2, fun p np => ⟨p, _, rfl, .inl ⟨SqL.of upd_same, fun v nv => ?_⟩⟩⟩
      rw [ec'] at nv ⊢
      have s3 := (same_new (o := .lst (rest.map V.str)) np).trans (same_new (o := .tup (rest.map V.str)) nv)
      have ev : (upd (upd H2 p (.lst (rest.map V.str))) v (.tup (rest.map V.str))) v = some (.tup (rest.map V.str)) := upd_same
      generalize upd (upd H2 p (.lst (rest.map V.str))) v (.tup (rest.map V.str)) = H3 at s3 ev
      have r3 := r2.same s3
      have ha3 := s3 _ _ ha2
      have lk3 : SqT K H3 b ((keyL k).map kV) := by rw [keyL_kV]; exact r3.lk
      refine ⟨.ref x, rfl, x, C, dx, _, _, rfl, r3.hx, L.cl, L.nh, lk_h .., .ref x, rfl, x, C, dx, _, _, rfl, r3.hx, L.cl, L.nl, lk_l .., hd, b, v, hp.map HE.x, keyL k, rfl, rfl, rfl, r3.hh, r3.keysH, lk3, by rw [List.length_map]; omega, ?_⟩
      have r4 := r3.addHead ev nk (by omega)
      have ha4 : (upd H3 hd (dX P w hd (putX (hp.map HE.x) (keyL k) b v))) a = some (.lst ((w0 :: n :: rest).map V.str)) := by rw [upd_ne (ne_of ha3 r3.hh fun z => dX_tup.2.2.2.1 _ z.symm)]; exact ha3
      generalize upd H3 hd (dX P w hd (putX (hp.map HE.x) (keyL k) b v)) = H4 at r4 ha4
      rcases cs with ⟨rfl, ep⟩ | ⟨nr, hw, nk2, ep⟩ | ⟨nr, nw1, nw2, ep⟩
      · refine ⟨.ref a, rfl, a, _, 0, _, rfl, rfl, SqL.of ha4, atI_nat (j := 0) rfl, rfl, true, blT rfl, iteT ⟨.ref a, rfl, a, _, 1, _, rfl, rfl, SqL.of ha4, atI_nat (j := 1) rfl, hS 1 (by decide), fun t nt => ?_⟩⟩
        have s5 := same_new (o := .tup [V.str n]) nt
        have et : (upd H4 t (.tup [V.str n])) t = some (.tup [V.str n]) := upd_same
        generalize upd H4 t (.tup [V.str n]) = H5 at s5 et
        have r5 := r4.same s5
        have ha5 := s5 _ _ ha4
        have lk5 : SqT K H5 b ((keyL k).map kV) := by rw [keyL_kV]; exact r5.lk
        refine ⟨.ref x, rfl, x, C, dx, _, _, rfl, r5.hx, L.cl, L.nh, lk_h .., .ref x, rfl, x, C, dx, _, _, rfl, r5.hx, L.cl, L.nl, lk_l .., hd, b, t, (hp ++ [HE.mk b v k rest]).map HE.x, keyL k, rfl, rfl, rfl, r5.hh, r5.keysH, lk5, by rw [List.length_map, List.length_append]; show hp.length + 1 < 1000; omega, ?_⟩
        have r6 := r5.setHead (st := { st with la := k }) (o' := [n]) et nk
        have ha6 : (upd H5 hd (dX P w hd (putX ((hp ++ [HE.mk b v k rest]).map HE.x) (keyL k) b t))) a = some (.lst ((("root" : Str) :: n :: rest).map V.str)) := by rw [upd_ne (ne_of ha5 r5.hh fun z => dX_tup.2.2.2.1 _ z.symm)]; exact ha5
        refine ⟨.ref a, rfl, a, _, 0, _, rfl, rfl, SqL.of ha6, atI_nat (j := 0) rfl, rfl, false, blF kf_ne.2.2.2.2.1, iteF ⟨.ref a, rfl, a, _, 0, _, rfl, rfl, SqL.of ha6, atI_nat (j := 0) rfl, rfl, false, blF kf_ne.2.2.2.2.2.2.1, iteF ?_⟩⟩
        refine q _ b (hp ++ [HE.mk b t k [n]]) sp ?_ (by rw [List.length_append]; exact Nat.le_refl _) (Nat.le_succ _)
        rw [ep]
        exact r6
      · refine ⟨.ref a, rfl, a, _, 0, _, rfl, rfl, SqL.of ha4, atI_nat (j := 0) rfl, rfl, false, blF (fun e => nr (V.str.inj e)), iteF ?_⟩
        have fin : ∀ d, H4 d = none → RdS P w K C H0 (upd (upd H4 d (.dK [])) sh (dX P w sh (putX (sp.map SE.x) (keyL k) b d))) x dx hd sh b (hp ++ [HE.mk b v k rest]) (sp ++ [SE.mk b d k []]) (pstep st l) := fun d nd => by
          rw [ep]
          exact r4.addShape nd nk2 (by omega)
        have body : ∀ d, H4 d = none → Q .non (upd (upd H4 d (.dK [])) sh (dX P w sh (putX (sp.map SE.x) (keyL k) b d))) := fun d nd => q _ b _ _ (fin d nd) (by rw [List.length_append]; exact Nat.le_refl _) (by rw [List.length_append]; exact Nat.le_refl _)
        have rd : ∀ d, H4 d = none → RdS P w K C H0 (upd H4 d (.dK [])) x dx hd sh b _ sp _ := fun d nd => r4.same (same_new nd)
        have lkd : ∀ d, H4 d = none → SqT K (upd H4 d (.dK [])) b ((keyL k).map kV) := fun d nd => by rw [keyL_kV]; exact (rd d nd).lk
        rcases hw with rfl | rfl
        · exact ⟨.ref a, rfl, a, _, 0, _, rfl, rfl, SqL.of ha4, atI_nat (j := 0) rfl, rfl, true, blT rfl, iteT fun d nd => ⟨.ref x, rfl, x, C, dx, _, _, rfl, (rd d nd).hx, L.cl, L.ns, lk_s .., .ref x, rfl, x, C, dx, _, _, rfl, (rd d nd).hx, L.cl, L.nl, lk_l .., sh, b, d, sp.map SE.x, keyL k, rfl, rfl, rfl, (rd d nd).hs, (rd d nd).keysS, lkd d nd, by rw [List.length_map]; omega, body d nd⟩⟩
        · exact ⟨.ref a, rfl, a, _, 0, _, rfl, rfl, SqL.of ha4, atI_nat (j := 0) rfl, rfl, false, blF kf_ne.2.1, iteF ⟨.ref a, rfl, a, _, 0, _, rfl, rfl, SqL.of ha4, atI_nat (j := 0) rfl, rfl, true, blT rfl, iteT fun d nd => ⟨.ref x, rfl, x, C, dx, _, _, rfl, (rd d nd).hx, L.cl, L.ns, lk_s .., .ref x, rfl, x, C, dx, _, _, rfl, (rd d nd).hx, L.cl, L.nl, lk_l .., sh, b, d, sp.map SE.x, keyL k, rfl, rfl, rfl, (rd d nd).hs, (rd d nd).keysS, lkd d nd, by rw [List.length_map]; omega, body d nd⟩⟩⟩
      · refine ⟨.ref a, rfl, a, _, 0, _, rfl, rfl, SqL.of ha4, atI_nat (j := 0) rfl, rfl, false, blF (fun e => nr (V.str.inj e)), iteF ⟨.ref a, rfl, a, _, 0, _, rfl, rfl, SqL.of ha4, atI_nat (j := 0) rfl, rfl, false, blF (fun e => nw1 (V.str.inj e)), iteF ⟨.ref a, rfl, a, _, 0, _, rfl, rfl, SqL.of ha4, atI_nat (j := 0) rfl, rfl, false, blF (fun e => nw2 (V.str.inj e)), iteF ?_⟩⟩⟩
        refine q _ b (hp ++ [HE.mk b v k rest]) sp ?_ (by rw [List.length_append]; exact Nat.le_refl _) (Nat.le_succ _)
        rw [ep]
        exact r4
end
end NW
namespace NW
open PySem PySem.Spec PyProof.Rows L2
open TL (tl)
/-! ### rows out of blocks -/
def kOf : Blk → Option (Str × List Str × List CF) | .kind n fc fd => some (n, fc, fd) | _ => none
def fOf : Blk → Option (Str × List CF) | .face n fd => some (n, fd) | _ => none
def uOf : Blk → Option (Str × List Str) | .union n ms => some (n, ms) | _ => none
theorem kOf_nm (B : List Blk) : (B.filterMap kOf).map (·.1) = B.filterMap nK := by
  induction B with
  | nil => rfl
  | cons b r ih => cases b <;> simp only [List.filterMap_cons, List.map_cons, kOf, nK, ih]
theorem fOf_nm (B : List Blk) : (B.filterMap fOf).map (·.1) = B.filterMap nF := by
  induction B with
  | nil => rfl
  | cons b r ih => cases b <;> simp only [List.filterMap_cons, List.map_cons, fOf, nF, ih]
theorem uOf_nm (B : List Blk) : (B.filterMap uOf).map (·.1) = B.filterMap nU := by
  induction B with
  | nil => rfl
  | cons b r ih => cases b <;> simp only [List.filterMap_cons, List.map_cons, uOf, nU, ih]
section
variable {ks ks' : List KRow} {fs fs' : List FRow} {us us' : List URow} {root : Str} {B : List Blk}
theorem GoodB.tk (g : GoodB ks fs us root B) (e : ks'.map (fun r => (r.nm, r.fcs, cfs r.fds)) = B.filterMap kOf) : TcK ks ks' := by
  refine ⟨?_, fun l ml => ?_⟩
  · have := congrArg (List.map (·.1)) e
    rw [List.map_map, kOf_nm] at this
    have h2 : ks'.map (·.nm) = B.filterMap nK := this
    rw [h2]
    exact g.kn
  · have : (l.nm, l.fcs, cfs l.fds) ∈ B.filterMap kOf := by rw [← e]; exact List.mem_map.mpr ⟨l, ml, rfl⟩
    obtain ⟨b, mb, eb⟩ := List.mem_filterMap.mp this
    cases b with
    | kind n fc fd =>
      cases eb
      obtain ⟨k, mk, h1, h2, h3⟩ := g.kc _ _ _ mb
      exact ⟨k, mk, h1, h2, h3⟩
    | face n fd => cases eb
    | union n ms => cases eb
    | root n => cases eb
theorem GoodB.tf (g : GoodB ks fs us root B) (e : fs'.map (fun r => (r.nm, cfs r.fds)) = B.filterMap fOf) : TcF fs fs' := by
  refine ⟨?_, fun l ml => ?_⟩
  · have := congrArg (List.map (·.1)) e
    rw [List.map_map, fOf_nm] at this
    have h2 : fs'.map (·.nm) = B.filterMap nF := this
    rw [h2]
    exact g.fn
  · have : (l.nm, cfs l.fds) ∈ B.filterMap fOf := by rw [← e]; exact List.mem_map.mpr ⟨l, ml, rfl⟩
    obtain ⟨b, mb, eb⟩ := List.mem_filterMap.mp this
    cases b with
    | face n fd =>
      cases eb
      obtain ⟨k, mk, h1, h3⟩ := g.fc _ _ mb
      exact ⟨k, mk, h1, h3⟩
    | kind n fc fd => cases eb
    | union n ms => cases eb
    | root n => cases eb
theorem GoodB.tu (g : GoodB ks fs us root B) (e : us'.map (fun r => (r.nm, r.ms)) = B.filterMap uOf) : TuU us us' := by
  refine ⟨?_, fun l ml => ?_⟩
  · have := congrArg (List.map (·.1)) e
    rw [List.map_map, uOf_nm] at this
    have h2 : us'.map (·.nm) = B.filterMap nU := this
    rw [h2]
    exact g.un
  · have : (l.nm, l.ms) ∈ B.filterMap uOf := by rw [← e]; exact List.mem_map.mpr ⟨l, ml, rfl⟩
    obtain ⟨b, mb, eb⟩ := List.mem_filterMap.mp this
    cases b with
    | union n ms =>
      cases eb
      obtain ⟨k, mk, h1, h3⟩ := g.uc _ _ mb
      exact ⟨k, mk, h1, h3⟩
    | kind n fc fd => cases eb
    | face n fd => cases eb
    | root n => cases eb
theorem GoodB.kd (g : GoodB ks fs us root B) (ok : SchOk ks fs us root) : (B.map Blk.key).Nodup :=
  keys_nd (g.kn.nodup_iff.mpr ok.ndk) (g.fn.nodup_iff.mpr ok.ndf) (g.un.nodup_iff.mpr ok.ndu) (by rw [g.rn]; exact Nat.le_refl _)
/-- a name is not yet there -/
theorem fm_fresh {f : Blk → Option Str} {j : Nat} {b : Blk} {n : Str} (nd : (B.filterMap f).Nodup) (e : B[j]? = some b) (h : f b = some n) : n ∉ (B.take j).filterMap f := by
  intro m
  have eB : B = B.take j ++ b :: B.drop (j + 1) := by
    have hj : j < B.length := by
      by_cases hj : j < B.length
      · exact hj
      · rw [List.getElem?_eq_none (by omega)] at e
        cases e
    have : B[j] = b := by
      rw [List.getElem?_eq_getElem hj] at e
      exact Option.some.inj e
    rw [← this, ← List.drop_eq_getElem_cons hj, List.take_append_drop]
  rw [eB, List.filterMap_append, List.filterMap_cons, h] at nd
  exact (List.nodup_append.mp nd).2.2 n m n List.mem_cons_self rfl
end
theorem kkv_put {ks : List KRow} {r : KRow} (h : r.nm ∉ ks.map (·.nm)) : putK (kkv ks) (Sum.inr r.nm) (.ref r.t) = kkv (ks ++ [r]) := by
  rw [putK_new (by rw [kkv_keys]; intro m; obtain ⟨z, mz, hz⟩ := List.mem_map.mp m; cases hz; exact h mz)]
  unfold kkv
  rw [List.map_append]
  rfl
theorem fkvs_put {ks : List FRow} {r : FRow} (h : r.nm ∉ ks.map (·.nm)) : putK (fkvs ks) (Sum.inr r.nm) (.ref r.da) = fkvs (ks ++ [r]) := by
  rw [putK_new (by rw [fkvs_keys]; intro m; obtain ⟨z, mz, hz⟩ := List.mem_map.mp m; cases hz; exact h mz)]
  unfold fkvs
  rw [List.map_append]
  rfl
theorem ukv_put {ks : List URow} {r : URow} (h : r.nm ∉ ks.map (·.nm)) : putK (ukv ks) (Sum.inr r.nm) (.ref r.t) = ukv (ks ++ [r]) := by
  rw [putK_new (by rw [ukv_keys]; intro m; obtain ⟨z, mz, hz⟩ := List.mem_map.mp m; cases hz; exact h mz)]
  unfold ukv
  rw [List.map_append]
  rfl
end NW
namespace NW
open PySem PySem.Spec PyProof.Rows L2
open TL (tl)
open StX (pa_star)
abbrev s_schema_of : Stmt := topS 47
abbrev N_schema_of : List Str := ["headings", "shapes", "kinds", "faces", "unions", "word", "name", "others"]
theorem sc_schema_of : FnScope N_schema_of ["headings", "shapes"] (defScope s_schema_of) := ⟨rfl, rfl, rfl, by decide +kernel, rfl, by decide +kernel, by decide +kernel⟩
theorem st_get {α β : Type} {f : α → β} {l : List α} {j : Nat} {y : β} (h : (l.map f)[j]? = some y) : ∃ a, l[j]? = some a ∧ f a = y := by
  rw [List.getElem?_map] at h
  cases e : l[j]? with
  | none => rw [e] at h; cases h
  | some a => rw [e] at h; cases h; exact ⟨a, rfl, rfl⟩
theorem fm_take {α : Type} {f : Blk → Option α} {B : List Blk} {j : Nat} {b : Blk} (e : B[j]? = some b) : (B.take (j + 1)).filterMap f = (B.take j).filterMap f ++ [b].filterMap f := by rw [take_succ e, List.filterMap_append]
section
variable {P : Program} {w : World} {K : PySem.W.Frag} {mg : Str → Option Value} {base : Heap}
def sp_schema_of (P : Program) (w : World) (K : PySem.W.Frag) (C CR : Addr) : Sp := fun vs H Q _ => ∃ (x dx hd sh la : Addr) (H0 : Hp) (hp : List HE) (sp : List SE) (st : PSt) (B : List Blk) (ks : List KRow) (fs : List FRow) (us : List URow) (root : Str),
  vs = [.ref hd, .ref sh] ∧ RdS P w K CR H0 H x dx hd sh la hp sp st ∧ st.hs = B.map Blk.hd ∧ st.ss = B.flatMap Blk.sd ∧ GoodB ks fs us root B ∧ SchOk ks fs us root ∧
  ∀ x' H', Same H H' → BuiltC C H' x' ks fs us root → H x' = none → Q (.ref x') H'
theorem ok_schema_of {f fI C CR ra : Addr} {fd fdI : FuncData} (D : Df K mg "schema_of" s_schema_of f fd ["headings", "shapes"]) (g_R : mg "ROOT_HEADING" = some (.ref ra)) (hR : ∀ H, SqT K H ra [.str "root", .str ""]) (T : Nms mg) (MS : Mk K C fI) (gS : mg "Schema" = some (.ref C)) (bI : Binds K fdI ["self", "kinds", "faces", "unions", "root"] [])
    (G_init : FnOk P w K mg base CX0 9 fI fdI ["self", "kinds", "faces", "unions", "root"] (spInit C)) : FnOk P w K mg base CX0 11 f fd ["headings", "shapes"] (sp_schema_of P w K C CR) := by
  refine D.F.ok sc_schema_of (fun vs H Q E h => ?_) (fun cdv A outer s H vs Q E hr h => ?_)
  · obtain ⟨x, dx, hd, sh, la, H0, hp, sp, st, B, ks, fs, us, root, rfl, _⟩ := h
    rfl
  · obtain ⟨x, dx, hd, sh, la, H0, hp, sp, st, B, ks, fs, us, root, rfl, r, eh, es, g, ok, q⟩ := h
    have hu := hu_of hr
    refine ⟨_, (pss_cons (ps_set (i := 2) sc_schema_of.nd rfl (.inl rfl) pe_dnewK)
      (pss_cons (ps_set (i := 3) sc_schema_of.nd rfl (.inl rfl) pe_dnewK)
      (pss_cons (ps_set (i := 4) sc_schema_of.nd rfl (.inl rfl) pe_dnewK)
      (pss_cons (ps_lock (ps_for PassesOwn.never rfl (pi_itemsX (pv 0)) (pg_tup (by rfl) (pgs_cons (pg_tup (by rfl) (pgs_cons (pg_name (i := 5) sc_schema_of.nd rfl (.inl rfl)) (pgs_cons (pg_name (i := 6) sc_schema_of.nd rfl (.inl rfl)) pgs_nil))) (pgs_cons (pg_name (i := 7) sc_schema_of.nd rfl (.inl rfl)) pgs_nil)))
       (pss_one (ps_if (pt_cmpR op_eq (pv 5) pe_str (nomark _))
         (pss_one (ps_dput hu (pv 2) (pv 6) (pe_tup (pa_cons (pv 7) (pa_cons (pe_dgetX2 hu (pv 1) (pe_tup (pa_cons (pv 5) (pa_cons (pv 6) pa_nil))) (fun _ _ => rfl)) pa_nil))) rfl))
         (pss_one (ps_if (pt_cmpR op_eq (pv 5) pe_str (nomark _))
           (pss_one (ps_dput hu (pv 3) (pv 6) (pe_dgetX2 hu (pv 1) (pe_tup (pa_cons (pv 5) (pa_cons (pv 6) pa_nil))) (fun _ _ => rfl)) rfl))
           (pss_one (ps_if (pt_cmpR op_eq (pv 5) pe_str (nomark _))
             (pss_one (ps_dput hu (pv 4) (pv 6) (pv 7) rfl))
             pss_nil))))))))
      (pss_one (ps_ret (pe_make MS G_init (hr.mono (by decide)) (by rfl) gS bI .nil pass0 (pa_cons (pv 2) (pa_cons (pv 3) (pa_cons (pv 4) (pa_cons (pe_ix ix_tup (pe_dgetX2 hu (pv 0) (pe_glob (v := .ref ra) (by rfl) g_R rfl) (fun _ _ => rfl)) pe_int (fun _ _ => rfl)) pa_nil))))))))))), ?_⟩
    have hS : ∀ n : Nat, n ≤ 1000 → n ≤ sizeLine := fun n h => Nat.le_trans h (by decide)
    have lt : ∀ n : Nat, n ≤ 1000 → n < sizeLine := fun n h => Nat.lt_of_le_of_lt h (by decide)
    have ehp : hp.map (fun e => (e.k, e.o)) = B.map Blk.hd := r.e1.trans eh
    have lB : hp.length = B.length := by
      have := congrArg List.length ehp
      rw [List.length_map, List.length_map] at this
      exact this
    have fewB := g.few ok
    have ndK : (B.filterMap nK).Nodup := g.kn.nodup_iff.mpr ok.ndk
    have ndF : (B.filterMap nF).Nodup := g.fn.nodup_iff.mpr ok.ndf
    have ndU : (B.filterMap nU).Nodup := g.un.nodup_iff.mpr ok.ndu
    refine fun kd nkd => fun fd nfd => fun ud nud => ?_
    have s1 := same_new (o := .dK []) nkd
    have s2 := same_new (o := .dK []) nfd
    have s3 := same_new (o := .dK []) nud
    have s03 := (s1.trans s2).trans s3
    have kf : fd ≠ kd := fun z => by rw [z, upd_same] at nfd; cases nfd
    have ku : ud ≠ kd := fun z => by rw [z, s2 _ _ (upd_same (H := H) (a := kd) (o := .dK []))] at nud; cases nud
    have fu : ud ≠ fd := fun z => by rw [z, upd_same] at nud; cases nud
    have nfd0 : H fd = none := s1.free nfd
    have nud0 : H ud = none := (s1.trans s2).free nud
    have ekd : (upd (upd (upd H kd (.dK [])) fd (.dK [])) ud (.dK [])) kd = some (.dK []) := (s2.trans s3) _ _ upd_same
    have efd : (upd (upd (upd H kd (.dK [])) fd (.dK [])) ud (.dK [])) fd = some (.dK []) := s3 _ _ upd_same
    have eud : (upd (upd (upd H kd (.dK [])) fd (.dK [])) ud (.dK [])) ud = some (.dK []) := upd_same
    generalize upd (upd (upd H kd (.dK [])) fd (.dK [])) ud (.dK []) = H3 at s03 ekd efd eud
    clear s1 s2 s3 nfd nud
    refine ⟨hd, dX P w hd (hp.map HE.x), s03 _ _ r.hh, trivial, fun od => ⟨.ref hd, rfl, hd, od, hp.map HE.x, rfl, upd_same, ?_⟩⟩
    obtain ⟨d1, d2, d3, d4, d5⟩ := @dX_tup P w hd (hp.map HE.x)
    obtain ⟨k1, k2⟩ := r.keep (o' := .frz od (dX P w hd (hp.map HE.x))) r.hh d1 d2 d3
    have hdB : (upd H hd (.frz od (dX P w hd (hp.map HE.x)))) hd = some (.frz od (dX P w hd (hp.map HE.x))) := upd_same
    have shB : (upd H hd (.frz od (dX P w hd (hp.map HE.x)))) sh = some (dX P w sh (sp.map SE.x)) := by rw [upd_ne (fun z => r.ne z.symm)]; exact r.hs
    have kdn : kd ≠ hd := fun z => by rw [z, r.hh] at nkd; cases nkd
    have fdn : fd ≠ hd := fun z => by rw [z, r.hh] at nfd0; cases nfd0
    have udn : ud ≠ hd := fun z => by rw [z, r.hh] at nud0; cases nud0
    have kB : (upd H hd (.frz od (dX P w hd (hp.map HE.x)))) kd = none := by rw [upd_ne kdn]; exact nkd
    have fB : (upd H hd (.frz od (dX P w hd (hp.map HE.x)))) fd = none := by rw [upd_ne fdn]; exact nfd0
    have uB : (upd H hd (.frz od (dX P w hd (hp.map HE.x)))) ud = none := by rw [upd_ne udn]; exact nud0
    have sBL : Same (upd H hd (.frz od (dX P w hd (hp.map HE.x)))) (upd H3 hd (.frz od (dX P w hd (hp.map HE.x)))) := fun a o e => by
      by_cases h : a = hd
      · rw [h] at e ⊢
        rw [upd_same] at e ⊢
        exact e
      · rw [upd_ne h] at e ⊢
        exact s03 _ _ e
    have ekL : (upd H3 hd (.frz od (dX P w hd (hp.map HE.x)))) kd = some (.dK []) := by rw [upd_ne kdn]; exact ekd
    have efL : (upd H3 hd (.frz od (dX P w hd (hp.map HE.x)))) fd = some (.dK []) := by rw [upd_ne fdn]; exact efd
    have euL : (upd H3 hd (.frz od (dX P w hd (hp.map HE.x)))) ud = some (.dK []) := by rw [upd_ne udn]; exact eud
    generalize hHB : upd H hd (.frz od (dX P w hd (hp.map HE.x))) = HB at k1 k2 hdB shB kB fB uB sBL
    generalize upd H3 hd (.frz od (dX P w hd (hp.map HE.x))) = HL at sBL ekL efL euL
    have keysB : ∀ {H'}, Same HB H' → KeysX K H' (sp.map SE.x) := fun {H'} s e m => by
      obtain ⟨y, my, rfl⟩ := List.mem_map.mp m
      show SqT K H' y.b ((keyL y.k).map kV)
      rw [keyL_kV]
      exact sq_sameT s (k2 y my).1
    have lhp : (hp.map HE.x).length = hp.length := List.length_map ..
    refine for_it (walk_itemsX (P := P) (w := w) (d := hd) (o := od) (xs := hp.map HE.x)) (fun j σ H' => ∃ (ks' : List KRow) (fs' : List FRow) (us' : List URow) (y5 y6 y7 : Option V), σ = [some (.ref hd), some (.ref sh), some (.ref kd), some (.ref fd), some (.ref ud), y5, y6, y7] ∧ Same HB H' ∧
        H' kd = some (.dK (kkv ks')) ∧ H' fd = some (.dK (fkvs fs')) ∧ H' ud = some (.dK (ukv us')) ∧ (∀ r ∈ ks', H' r.t = some (.tup [.ref r.fa, .ref r.da]) ∧ HB r.fa = some (.tup (r.fcs.map V.str)) ∧ FldAt HB r.da r.fds) ∧ (∀ r ∈ fs', FldAt HB r.da r.fds) ∧ (∀ u ∈ us', HB u.t = some (.tup (u.ms.map V.str))) ∧
        ks'.map (fun r => (r.nm, r.fcs, cfs r.fds)) = (B.take j).filterMap kOf ∧ fs'.map (fun r => (r.nm, cfs r.fds)) = (B.take j).filterMap fOf ∧ us'.map (fun r => (r.nm, r.ms)) = (B.take j).filterMap uOf) ?_ ?_ ?_ ?_
    · exact ⟨[], [], [], _, _, _, rfl, sBL, ekL, efL, euL, (fun r m => nomatch m), (fun r m => nomatch m), (fun r m => nomatch m), rfl, rfl, rfl⟩
    · rintro j σ H' _ ⟨_, _, _, _, _, _, _, s', _⟩
      exact s' _ _ hdB
    · rintro j xx σ H1 H2 hj ⟨ks', fs', us', y5, y6, y7, rfl, sB, eK, eF, eU, aK, aF, aU, cK, cF, cU⟩ ⟨T, xe, exe, rfl, nT, rfl⟩
      rw [lhp] at hj
      obtain ⟨e, ee, rfl⟩ := st_get exe
      have me : e ∈ hp := List.mem_of_getElem? ee
      obtain ⟨b, eb, hb⟩ : ∃ b, B[j]? = some b ∧ b.hd = (e.k, e.o) := by
        have h1 : (hp.map (fun e => (e.k, e.o)))[j]? = some (e.k, e.o) := by rw [List.getElem?_map, ee]; rfl
        rw [ehp] at h1
        exact st_get h1
      have mb : b ∈ B := List.mem_of_getElem? eb
      have sT := same_new (o := .tup [.ref e.b, .ref e.v]) nT
      have eT : (upd H1 T (.tup [.ref e.b, .ref e.v])) T = some (.tup [.ref e.b, .ref e.v]) := upd_same
      have sB2 := sB.trans sT
      have eK2 := sT _ _ eK
      have eF2 := sT _ _ eF
      have eU2 := sT _ _ eU
      have aK2 : ∀ r ∈ ks', (upd H1 T (.tup [.ref e.b, .ref e.v])) r.t = some (.tup [.ref r.fa, .ref r.da]) ∧ HB r.fa = some (.tup (r.fcs.map V.str)) ∧ FldAt HB r.da r.fds := fun r m => ⟨sT _ _ (aK r m).1, (aK r m).2⟩
      show gTup _ _ _ (.ref T) _ (upd H1 T (.tup [.ref e.b, .ref e.v])) _
      generalize upd H1 T (.tup [.ref e.b, .ref e.v]) = H2 at sT eT sB2 eK2 eF2 eU2 aK2
      obtain ⟨kb, kv⟩ := k1 e me
      have kb2 := sq_sameT sB2 kb
      have hsp : ∀ (k : List Str) (fd : List CF), (k, fd) ∈ b.sd → ∃ se ∈ sp, se.k = k ∧ cfs se.fds = fd := fun k fd m => by
        have : (k, fd) ∈ sp.map (fun e => (e.k, cfs e.fds)) := by
          rw [r.e2, es]
          exact List.mem_flatMap.mpr ⟨b, mb, m⟩
        obtain ⟨se, ms, h⟩ := List.mem_map.mp this
        exact ⟨se, ms, (Prod.mk.inj h).1, (Prod.mk.inj h).2⟩
      cases b with
      | kind n fc fd' =>
        obtain ⟨h1, h2⟩ := Prod.mk.inj hb
        obtain ⟨se, ms, hk, hf⟩ := hsp (kK n) fd' (List.mem_singleton.mpr rfl)
        rw [← h1] at kb2
        have gs : getX (sp.map SE.x) (keyL (kK n)) = some se.d := by rw [← hk]; exact get_sp r ms
        refine ⟨T, _, rfl, .inl (.inl eT), rfl, _, _, rfl, ⟨e.b, _, rfl, kb2, rfl, _, _, rfl, _, _, rfl, rfl, _, _, rfl, rfl, ?_⟩⟩
        have lk' : ks'.length ≤ 13 := by
          have := congrArg List.length cK
          rw [List.length_map] at this
          have h2 := List.length_filterMap_le kOf (B.take j)
          rw [List.length_take] at h2
          omega
        have nf : n ∉ ks'.map (·.nm) := by
          have h3 : ks'.map (·.nm) = (B.take j).filterMap nK := by
            have := congrArg (List.map (·.1)) cK
            rw [List.map_map, kOf_nm] at this
            exact this
          rw [h3]
          exact fm_fresh ndK eb rfl
        refine ⟨.str "kind", rfl, rfl, true, blT rfl, iteT ⟨.ref e.v, rfl, .ref sh, rfl, .str "kind", rfl, .str n, rfl, hS 2 (by decide), fun t nt => ?_⟩⟩
        have s5 := same_new (o := .tup [V.str "kind", V.str n]) nt
        refine ⟨sh, t, se.d, sp.map SE.x, keyL (kK n), rfl, rfl, (sB2.trans s5) _ _ shB, keysB (sB2.trans s5), .inl (.inl (by rw [upd_same, keyL_kV]; rfl)), gs, hS 2 (by decide), fun t2 nt2 => ?_⟩
        have s6 := s5.trans (same_new (o := .tup [.ref e.v, .ref se.d]) nt2)
        have e6 : (upd (upd H2 t (.tup [V.str "kind", V.str n])) t2 (.tup [.ref e.v, .ref se.d])) t2 = some (.tup [.ref e.v, .ref se.d]) := upd_same
        generalize upd (upd H2 t (.tup [V.str "kind", V.str n])) t2 (.tup [.ref e.v, .ref se.d]) = H4 at s6 e6
        have ep : putK (kkv ks') (Sum.inr n) (.ref t2) = kkv (ks' ++ [KRow.mk n t2 e.v se.d fc se.fds]) := kkv_put (r := KRow.mk n t2 e.v se.d fc se.fds) nf
        refine ⟨.ref kd, rfl, .str n, rfl, kd, upd H4 kd (.dK (kkv (ks' ++ [KRow.mk n t2 e.v se.d fc se.fds]))), rfl, .inl ⟨kkv ks', .inr n, s6 _ _ eK2, rfl, lt _ (by unfold kkv; rw [List.length_map]; omega), by rw [ep]⟩, ks' ++ [KRow.mk n t2 e.v se.d fc se.fds], fs', us', _, _, _, rfl, same_upd (sB2.trans s6) kB, upd_same, by rw [upd_ne kf]; exact s6 _ _ eF2, by rw [upd_ne ku]; exact s6 _ _ eU2, fun r m => ?_, aF, aU, ?_, ?_, ?_⟩
        · rcases List.mem_append.mp m with m | m
          · obtain ⟨a1, a2⟩ := aK2 r m
            exact ⟨by rw [upd_ne (ne_of (s6 _ _ a1) (s6 _ _ eK2) fun z => nomatch z)]; exact s6 _ _ a1, a2⟩
          · rw [List.mem_singleton.mp m]
            exact ⟨by rw [upd_ne (ne_of e6 (s6 _ _ eK2) fun z => nomatch z)]; exact e6, by rw [kv, ← h2], (k2 se ms).2.1⟩
        · rw [List.map_append, cK, fm_take eb, List.map_cons, List.map_nil, hf]
          rfl
        · rw [cF, fm_take eb]
          exact (List.append_nil _).symm
        · rw [cU, fm_take eb]
          exact (List.append_nil _).symm
      | face n fd' =>
        obtain ⟨h1, h2⟩ := Prod.mk.inj hb
        obtain ⟨se, ms, hk, hf⟩ := hsp (kF n) fd' (List.mem_singleton.mpr rfl)
        rw [← h1] at kb2
        have gs : getX (sp.map SE.x) (keyL (kF n)) = some se.d := by rw [← hk]; exact get_sp r ms
        refine ⟨T, _, rfl, .inl (.inl eT), rfl, _, _, rfl, ⟨e.b, _, rfl, kb2, rfl, _, _, rfl, _, _, rfl, rfl, _, _, rfl, rfl, ?_⟩⟩
        have lk' : fs'.length ≤ 13 := by
          have := congrArg List.length cF
          rw [List.length_map] at this
          have h2 := List.length_filterMap_le fOf (B.take j)
          rw [List.length_take] at h2
          omega
        have nf : n ∉ fs'.map (·.nm) := by
          have h3 : fs'.map (·.nm) = (B.take j).filterMap nF := by
            have := congrArg (List.map (·.1)) cF
            rw [List.map_map, fOf_nm] at this
            exact this
          rw [h3]
          exact fm_fresh ndF eb rfl
        refine ⟨.str "face", rfl, rfl, false, blF kf_ne.2.1, iteF ⟨.str "face", rfl, rfl, true, blT rfl, iteT ⟨.ref sh, rfl, .str "face", rfl, .str n, rfl, hS 2 (by decide), fun t nt => ?_⟩⟩⟩
        have s5 := same_new (o := .tup [V.str "face", V.str n]) nt
        have e5 : SqT K (upd H2 t (.tup [V.str "face", V.str n])) t ((keyL (kF n)).map kV) := .inl (.inl (by rw [upd_same, keyL_kV]; rfl))
        generalize upd H2 t (.tup [V.str "face", V.str n]) = H4 at s5 e5
        have ep : putK (fkvs fs') (Sum.inr n) (.ref se.d) = fkvs (fs' ++ [FRow.mk n se.d se.fds]) := fkvs_put (r := FRow.mk n se.d se.fds) nf
        refine ⟨sh, t, se.d, sp.map SE.x, keyL (kF n), rfl, rfl, (sB2.trans s5) _ _ shB, keysB (sB2.trans s5), e5, gs, .ref fd, rfl, .str n, rfl, fd, upd H4 fd (.dK (fkvs (fs' ++ [FRow.mk n se.d se.fds]))), rfl, .inl ⟨fkvs fs', .inr n, s5 _ _ eF2, rfl, lt _ (by unfold fkvs; rw [List.length_map]; omega), by rw [ep]⟩, ks', fs' ++ [FRow.mk n se.d se.fds], us', _, _, _, rfl, same_upd (sB2.trans s5) fB, by rw [upd_ne (fun z => kf z.symm)]; exact s5 _ _ eK2, upd_same, by rw [upd_ne fu]; exact s5 _ _ eU2, fun r m => ?_, fun r m => ?_, aU, ?_, ?_, ?_⟩
        · obtain ⟨a1, a2⟩ := aK2 r m
          exact ⟨by rw [upd_ne (ne_of (s5 _ _ a1) (s5 _ _ eF2) fun z => nomatch z)]; exact s5 _ _ a1, a2⟩
        · rcases List.mem_append.mp m with m | m
          · exact aF r m
          · rw [List.mem_singleton.mp m]
            exact (k2 se ms).2.1
        · rw [cK, fm_take eb]
          exact (List.append_nil _).symm
        · rw [List.map_append, cF, fm_take eb, List.map_cons, List.map_nil, hf]
          rfl
        · rw [cU, fm_take eb]
          exact (List.append_nil _).symm
      | union n ms =>
        obtain ⟨h1, h2⟩ := Prod.mk.inj hb
        rw [← h1] at kb2
        refine ⟨T, _, rfl, .inl (.inl eT), rfl, _, _, rfl, ⟨e.b, _, rfl, kb2, rfl, _, _, rfl, _, _, rfl, rfl, _, _, rfl, rfl, ?_⟩⟩
        have lk' : us'.length ≤ 13 := by
          have := congrArg List.length cU
          rw [List.length_map] at this
          have h2 := List.length_filterMap_le uOf (B.take j)
          rw [List.length_take] at h2
          omega
        have nf : n ∉ us'.map (·.nm) := by
          have h3 : us'.map (·.nm) = (B.take j).filterMap nU := by
            have := congrArg (List.map (·.1)) cU
            rw [List.map_map, uOf_nm] at this
            exact this
          rw [h3]
          exact fm_fresh ndU eb rfl
        have ep : putK (ukv us') (Sum.inr n) (.ref e.v) = ukv (us' ++ [URow.mk n e.v ms]) := ukv_put (r := URow.mk n e.v ms) nf
        refine ⟨.str "union", rfl, rfl, false, blF kf_ne.2.2.2.1, iteF ⟨.str "union", rfl, rfl, false, blF (show ¬ V.str "union" = V.str "face" by decide +kernel), iteF ⟨.str "union", rfl, rfl, true, blT rfl, iteT ⟨.ref e.v, rfl, .ref ud, rfl, .str n, rfl, ud, upd H2 ud (.dK (ukv (us' ++ [URow.mk n e.v ms]))), rfl, .inl ⟨ukv us', .inr n, eU2, rfl, lt _ (by unfold ukv; rw [List.length_map]; omega), by rw [ep]⟩, ks', fs', us' ++ [URow.mk n e.v ms], _, _, _, rfl, same_upd sB2 uB, by rw [upd_ne (fun z => ku z.symm)]; exact eK2, by rw [upd_ne (fun z => fu z.symm)]; exact eF2, upd_same, fun r m => ?_, aF, fun r m => ?_, ?_, ?_, ?_⟩⟩⟩⟩
        · obtain ⟨a1, a2⟩ := aK2 r m
          exact ⟨by rw [upd_ne (ne_of a1 eU2 fun z => nomatch z)]; exact a1, a2⟩
        · rcases List.mem_append.mp m with m | m
          · exact aU r m
          · rw [List.mem_singleton.mp m]
            show HB e.v = some (.tup (ms.map V.str))
            rw [kv, ← h2]
        · rw [cK, fm_take eb]
          exact (List.append_nil _).symm
        · rw [cF, fm_take eb]
          exact (List.append_nil _).symm
        · rw [List.map_append, cU, fm_take eb, List.map_cons, List.map_nil]
          rfl
      | root n =>
        obtain ⟨h1, h2⟩ := Prod.mk.inj hb
        rw [← h1] at kb2
        refine ⟨T, _, rfl, .inl (.inl eT), rfl, _, _, rfl, ⟨e.b, _, rfl, kb2, rfl, _, _, rfl, _, _, rfl, rfl, _, _, rfl, rfl, ?_⟩⟩
        refine ⟨.str "root", rfl, rfl, false, blF kf_ne.2.2.2.2.1, iteF ⟨.str "root", rfl, rfl, false, blF kf_ne.2.2.2.2.2.2.1, iteF ⟨.str "root", rfl, rfl, false, blF kf_ne.2.2.2.2.2.1, iteF ⟨ks', fs', us', _, _, _, rfl, sB2, eK2, eF2, eU2, aK2, aF, aU, ?_, ?_, ?_⟩⟩⟩⟩
        · rw [cK, fm_take eb]
          exact (List.append_nil _).symm
        · rw [cF, fm_take eb]
          exact (List.append_nil _).symm
        · rw [cU, fm_take eb]
          exact (List.append_nil _).symm
    · rintro σ H1 ⟨ks', fs', us', y5, y6, y7, rfl, sB, eK, eF, eU, aK, aF, aU, cK, cF, cU⟩
      rw [lhp, lB, List.take_length] at cK cF cU
      refine ⟨sB _ _ hdB, ?_⟩
      have hf := sB _ _ hdB
      have oth := Oth.frz hf
      have sE : Same H (upd H1 hd (dX P w hd (hp.map HE.x))) := same_unlock r.hh (by rw [hHB]; exact sB)
      have rE := r.same sE
      have fE : ∀ {d : Addr} {fds : List Fld}, FldAt HB d fds → FldAt (upd H1 hd (dX P w hd (hp.map HE.x))) d fds := fun h => (h.same sB).gr oth Gr.box
      have tE : ∀ {a : Addr} {xs : List V}, H1 a = some (.tup xs) → (upd H1 hd (dX P w hd (hp.map HE.x))) a = some (.tup xs) := fun h => by rw [upd_ne (ne_of h hf fun z => nomatch z)]; exact h
      have eKE : (upd H1 hd (dX P w hd (hp.map HE.x))) kd = some (.dK (kkv ks')) := by rw [upd_ne kdn]; exact eK
      have eFE : (upd H1 hd (dX P w hd (hp.map HE.x))) fd = some (.dK (fkvs fs')) := by rw [upd_ne fdn]; exact eF
      have eUE : (upd H1 hd (dX P w hd (hp.map HE.x))) ud = some (.dK (ukv us')) := by rw [upd_ne udn]; exact eU
      have S : SchAt (upd H1 hd (dX P w hd (hp.map HE.x))) kd fd ud ks' fs' us' := ⟨eKE, eFE, eUE, fun r m => ⟨tE (aK r m).1, tE (sB _ _ (aK r m).2.1), fE (aK r m).2.2⟩, fun r m => fE (aF r m), fun u m => tE (sB _ _ (aU u m))⟩
      have tk := g.tk cK
      have tf := g.tf cF
      have tu := g.tu cU
      have ok' := ok.turnC tk tf tu
      have kR1 : (kR, [root]) ∈ hp.map (fun e => (e.k, e.o)) := by
        rw [ehp]
        exact List.mem_map.mpr ⟨_, g.hasRoot, rfl⟩
      obtain ⟨e, me, he⟩ := List.mem_map.mp kR1
      have ek : e.k = kR := (Prod.mk.inj he).1
      have eo : e.o = [root] := (Prod.mk.inj he).2
      have ndh : ((hp.map HE.x).map (·.1)).Nodup := by
        rw [List.map_map]
        have h0 : hp.map HE.k = B.map Blk.key := by
          have := congrArg (List.map (·.1)) ehp
          rw [List.map_map, List.map_map] at this
          refine Eq.trans this (List.map_congr_left fun b _ => hd_key b)
        have h1 : (hp.map HE.k).Nodup := by rw [h0]; exact g.kd ok
        have h2 := (List.Pairwise.map (R := fun a b : List Str => a ≠ b) (S := fun a b : List Key => a ≠ b) keyL (fun a b h e => h (keyL_inj e)) h1)
        rw [List.map_map] at h2
        exact h2
      have gs : getX (hp.map HE.x) (keyL kR) = some e.v := by rw [← ek]; exact getX_some (e := e.x) ndh (List.mem_map.mpr ⟨e, me, rfl⟩)
      have ev : (upd H1 hd (dX P w hd (hp.map HE.x))) e.v = some (.tup [.str root]) := by
        have := (rE.hk e me).2
        rw [eo] at this
        exact this
      generalize upd H1 hd (dX P w hd (hp.map HE.x)) = HF at sE rE S ev
      refine ⟨.ref kd, rfl, .ref fd, rfl, .ref ud, rfl, .ref hd, rfl, hd, ra, e.v, hp.map HE.x, keyL kR, rfl, rfl, rE.hh, rE.keysH, by rw [keyL_kV]; exact hR HF, gs, e.v, _, 0, _, rfl, rfl, .inl (.inl ev), atI_nat (j := 0) rfl, ?_⟩
      intro x' dx' nx ndx nex
      have s4 : Same HF (upd (upd HF dx' (.own x')) x' (.ins C dx' [])) := fun b o e => by
        rw [upd_ne (ne_of_none e nx), upd_ne (ne_of_none e ndx)]
        exact e
      refine ⟨x', dx', kd, fd, ud, ks', fs', us', root, rfl, upd_same, S.same s4, ok', fun H' gg bt => ⟨rfl, q x' H' (fun b o e => ?_) ⟨ks', fs', us', tk, tf, tu, bt⟩ (sE.free nx)⟩⟩
      exact gg _ _ (ne_of_none (sE _ _ e) nx) (s4 _ _ (sE _ _ e))
end
end NW
namespace NW
open PySem PySem.Spec PyProof.Rows L2
open TL (tl)
open StX (pa_star)
abbrev s_read_schema : Stmt := topS 42
abbrev N_read_schema : List Str := ["text", "lines", "reading", "index", "words"]
theorem sc_read_schema : FnScope N_read_schema ["text"] (defScope s_read_schema) := ⟨rfl, rfl, rfl, by decide +kernel, rfl, by decide +kernel, by decide +kernel⟩
theorem name_low {z : Str} (h : IsName z) : Low z := h.low
section
variable {P : Program} {w : World} {K : PySem.W.Frag} {mg : Str → Option Value} {base : Heap}
def sp_read_schema (C : Addr) : Sp := fun vs H Q _ => ∃ (B : List Blk) (ks : List KRow) (fs : List FRow) (us : List URow) (root : Str), vs = [.str (txtOf B)] ∧ GoodB ks fs us root B ∧ SchOk ks fs us root ∧
  ∀ x' H', Same H H' → BuiltC C H' x' ks fs us root → H x' = none → Q (.ref x') H'
theorem ok_read_schema {f f1 f2 f3 f4 f5 fR C CR ra : Addr} {fd fd1 fd2 fd3 fd4 fd5 fdR : FuncData} (D : Df K mg "read_schema" s_read_schema f fd ["text"])
    (D_lines_of : Df K mg "lines_of" s_lines_of f1 fd1 ["text"]) (G_lines_of : FnOk P w K mg base CX0 1 f1 fd1 ["text"] sp_lines_of)
    (D_is_schema_line : Df K mg "is_schema_line" s_is_schema_line f2 fd2 ["words"]) (G_is_schema_line : FnOk P w K mg base CX0 2 f2 fd2 ["words"] sp_is_schema_line)
    (MR : Mk K CR fR) (gRd : mg "SchemaReading" = some (.ref CR)) (bR : Binds K fdR ["self"] []) (G_rinit : FnOk P w K mg base CX0 1 fR fdR ["self"] (sp_rd_init P w CR))
    (M_has_room : Mt K CR "has_room" "SchemaReading.has_room" s_SchemaReading_has_room f3 fd3 ["self", "words"]) (G_has_room : FnOk P w K mg base CX0 2 f3 fd3 ["self", "words"] (sp_has_room P w K CR))
    (M_take_line : Mt K CR "take_line" "SchemaReading.take_line" s_SchemaReading_take_line f4 fd4 ["self", "words"]) (G_take_line : FnOk P w K mg base CX0 2 f4 fd4 ["self", "words"] (sp_take_line P w K CR))
    (D_schema_of : Df K mg "schema_of" s_schema_of f5 fd5 ["headings", "shapes"]) (G_schema_of : FnOk P w K mg base CX0 11 f5 fd5 ["headings", "shapes"] (sp_schema_of P w K C CR))
    (g_R : mg "ROOT_HEADING" = some (.ref ra)) (hR : ∀ H, SqT K H ra [.str "root", .str ""]) (T : Nms mg) (L : RC K CR) : FnOk P w K mg base CX0 12 f fd ["text"] (sp_read_schema C) := by
  refine D.F.ok sc_read_schema (fun vs H Q E h => ?_) (fun cdv A outer s H vs Q E hr h => ?_)
  · obtain ⟨B, ks, fs, us, root, rfl, _⟩ := h
    rfl
  · obtain ⟨B, ks, fs, us, root, rfl, g, ok, q⟩ := h
    have hu := hu_of hr
    refine ⟨_, (pss_cons (ps_set (i := 1) sc_read_schema.nd rfl (.inl rfl) (pe_call G_lines_of (hr.mono (by decide)) (by rfl) D_lines_of.g D_lines_of.F.kp D_lines_of.b .nil pass0 (pa_cons (pv 0) pa_nil)))
      (pss_cons (ps_set (i := 2) sc_read_schema.nd rfl (.inl rfl) (pe_make0 MR G_rinit (hr.mono (by decide)) (by rfl) gRd bR .nil pass0))
      (pss_cons (ps_for PassesOwn.never rfl (pi_range1 (by rfl) T.n_range (pa_cons (pe_callB call_len_seq (by rfl) T.n_len (by decide +kernel) (pa_cons (pv 1) pa_nil)) pa_nil)) (pg_name (i := 3) sc_read_schema.nd rfl (.inl rfl))
       (pss_cons (ps_set (i := 4) sc_read_schema.nd rfl (.inl rfl) (pe_split (pe_ix ix_list (pv 1) (pv 3) (fun _ _ => rfl)) pe_str))
        (pss_cons (ps_if (PW.pt (pw_or (pt_not (pt_val (pe_call G_is_schema_line (hr.mono (by decide)) (by rfl) D_is_schema_line.g D_is_schema_line.F.kp D_is_schema_line.b .nil pass0 (pa_cons (pv 4) pa_nil)))) (pw_or1 (pt_not (pt_val (pe_meth (pv 2) L.cl M_has_room.m G_has_room (hr.mono (by decide)) M_has_room.b .nil pass0 (pa_cons (pv 4) pa_nil)))))))
         (pss_one ps_never)
         pss_nil)
        (pss_one (ps_expr (pe_meth (pv 2) L.cl M_take_line.m G_take_line (hr.mono (by decide)) M_take_line.b .nil pass0 (pa_cons (pv 4) pa_nil)))))))
      (pss_cons (ps_if (pt_cmpR (op_notInX hu) (pe_glob (v := .ref ra) (by rfl) g_R rfl) (pe_fld (pv 2) rfl) (by rfl))
       (pss_one ps_never)
       pss_nil)
      (pss_one (ps_ret (pe_call G_schema_of (hr.mono (by decide)) (by rfl) D_schema_of.g D_schema_of.F.kp D_schema_of.b .nil pass0 (pa_cons (pe_fld (pv 2) rfl) (pa_cons (pe_fld (pv 2) rfl) pa_nil))))))))), ?_⟩
    have hS : ∀ n : Nat, n ≤ 200002 → n ≤ sizeLine := fun n h => Nat.le_trans h (by decide)
    obtain ⟨gl, gw⟩ := g.lines ok
    obtain ⟨la0, run⟩ := g.run ok
    have root_in : Ln.root root ∈ lnsOf B := List.mem_flatMap.mpr ⟨_, g.hasRoot, List.mem_singleton.mpr rfl⟩
    have etx : txtOf B = Txt.join "\n" (((lnsOf B).map (·.ws)).map ln) := by
      unfold txtOf
      rw [List.map_map]
      rfl
    have hw : ∀ ws ∈ (lnsOf B).map (·.ws), ws.length ≤ 20 ∧ ∀ z ∈ ws, IsName z := fun ws m => by
      obtain ⟨l, ml, rfl⟩ := List.mem_map.mp m
      exact ⟨(gw l ml).ws.2.1, (gw l ml).ws.1⟩
    have hsplit : Txt.split (txtOf B) "\n" = (lnsOf B).map fun l => ln l.ws := by
      rw [etx, txt_split (fun e => by rw [List.map_eq_nil_iff] at e; rw [e] at root_in; cases root_in) fun ws m z mz => ((hw ws m).2 z mz).low, List.map_map]
      rfl
    have hne : txtOf B ≠ "" := by
      rw [etx]
      exact txt_ne (z := "root") (List.mem_map.mpr ⟨_, root_in, rfl⟩) List.mem_cons_self (by decide +kernel)
    have hlen : (txtOf B).length + 2 ≤ 200002 := by
      have h1 := J_len "\n" (((lnsOf B).map (·.ws)).map ln)
      have h2 := txt_len (ls := (lnsOf B).map (·.ws)) (fun ws m => ⟨(hw ws m).1, low_le (hw ws m).2⟩) (by rw [List.length_map]; omega)
      rw [← etx] at h1
      omega
    generalize hLL : lnsOf B = LL at *
    refine ⟨.str (txtOf B), rfl, txtOf B, rfl, hne, hS _ hlen, fun p H1 s1 n1 e1 => ?_⟩
    rw [hsplit] at e1
    intro x dx nx ndx nex
    have xd : x ≠ dx := fun z => nex z.symm
    refine ⟨x, dx, rfl, upd_same, fun H2 hd sh la gx nh ns hs ex eh es el => ⟨rfl, ?_⟩⟩
    have nh1 : H1 hd = none := by
      by_cases h : hd = x
      · rw [h, upd_same] at nh
        cases nh
      · rw [upd_ne h] at nh
        by_cases h2 : hd = dx
        · rw [h2, upd_same] at nh
          cases nh
        · rw [upd_ne h2] at nh
          exact nh
    have ns1 : H1 sh = none := by
      by_cases h : sh = x
      · rw [h, upd_same] at ns
        cases ns
      · rw [upd_ne h] at ns
        by_cases h2 : sh = dx
        · rw [h2, upd_same] at ns
          cases ns
        · rw [upd_ne h2] at ns
          exact ns
    have s12 : Same H1 H2 := fun a o e => gx _ _ (ne_of_none e nx) (by rw [upd_ne (ne_of_none e nx), upd_ne (ne_of_none e ndx)]; exact e)
    have r0 : RdS P w K CR H1 H2 x dx hd sh la [] [] ⟨[], [], []⟩ := ⟨s12, nx, nh1, ns1, ex, eh, es, hs, (fun e m => nomatch m), (fun e m => nomatch m), List.nodup_nil, List.nodup_nil, .inl (.inl el), rfl, rfl, Nat.zero_le _, Nat.zero_le _⟩
    have lp : ((LL.map fun l => ln l.ws).map V.str).length = LL.length := by rw [List.length_map, List.length_map]
    refine ⟨.ref p, rfl, p, _, rfl, .inl (SqL.of (s12 _ _ e1)), ?_⟩
    rw [lp]
    refine ⟨_, rfl, by omega, by omega, for_range (lo := 0) (n := ((LL.length : Nat) : Int).toNat) (fun j σ H' => ∃ (la' : Addr) (hp : List HE) (sp : List SE) (st : PSt) (y3 y4 : Option V), σ = [some (.str (txtOf B)), some (.ref p), some (.ref x), y3, y4] ∧ RdS P w K CR H1 H' x dx hd sh la' hp sp st ∧ RunsTo st (LL.drop j) ⟨B.map Blk.hd, B.flatMap Blk.sd, la0⟩ ∧ hp.length ≤ j ∧ sp.length ≤ j) ?_ ?_ ?_⟩
    · exact ⟨la, [], [], _, _, _, rfl, r0, run, Nat.zero_le _, Nat.zero_le _⟩
    · rintro j σ H3 hj ⟨la', hp, sp, st, y3, y4, rfl, r3, run3, f1, f2⟩
      rw [Int.toNat_natCast] at hj
      rw [List.drop_eq_getElem_cons hj] at run3
      obtain ⟨pk, run4⟩ := run3
      have ml : LL[j] ∈ LL := List.getElem_mem hj
      have hl := gw _ ml
      have hlw := hl.ws
      have eat : ((LL.map fun l => ln l.ws).map V.str)[j]? = some (.str (ln LL[j].ws)) := by
        rw [List.getElem?_map, List.getElem?_map, List.getElem?_eq_getElem hj]
        rfl
      have hj0 : (0 : Int) + (j : Int) = (j : Int) := Int.zero_add _
      have hsp : Txt.split (ln LL[j].ws) " " = LL[j].ws := ln_split (fun e => by have := hlw.2.2; rw [e] at this; exact absurd this (by decide)) fun z m => (hlw.1 z m).low
      have e13 := r3.sm _ _ e1
      refine ⟨.ref p, rfl, .int (0 + (j : Int)), rfl, p, _, _, .str (ln LL[j].ws), rfl, rfl, SqL.of e13, by rw [hj0]; exact atI_nat eat, ⟨_, rfl⟩, ln LL[j].ws, " ", rfl, rfl, by decide +kernel, hS _ (by have := ln_len (low_le hlw.1); have := hlw.2.1; omega), fun wl nwl => ?_⟩
      rw [hsp]
      have s4 := same_new (o := .lst (LL[j].ws.map V.str)) nwl
      have e4 : (upd H3 wl (.lst (LL[j].ws.map V.str))) wl = some (.lst (LL[j].ws.map V.str)) := upd_same
      generalize upd H3 wl (.lst (LL[j].ws.map V.str)) = H4 at s4 e4
      have r4 := r3.same s4
      refine ⟨.ref wl, rfl, wl, LL[j], rfl, e4, hl, fun H5 s5 => ⟨true, rfl, iteF ?_⟩⟩
      have r5 := r4.same s5
      have nohr : ∀ m : Str, ¬ m = "headings" → ¬ m = "shapes" → ¬ m = "last_heading" → (rfs hd sh la').lookup m = none := fun m h1 h2 h3 => by
        have b1 := beq_eq_false_iff_ne.mpr h1
        have b2 := beq_eq_false_iff_ne.mpr h2
        have b3 := beq_eq_false_iff_ne.mpr h3
        simp [rfs, List.lookup, b1, b2, b3]
      refine ⟨.ref x, rfl, x, dx, _, rfl, r5.hx, nohr _ (by decide +kernel) (by decide +kernel) (by decide +kernel), .ref wl, rfl, x, wl, dx, hd, sh, la', H1, hp, sp, st, LL[j], rfl, s5 _ _ e4, r5, pk, fun H6 s6 => ⟨true, rfl, iteF ?_⟩⟩
      have r6 := r5.same s6
      refine ⟨.ref x, rfl, x, dx, _, rfl, r6.hx, nohr _ (by decide +kernel) (by decide +kernel) (by decide +kernel), .ref wl, rfl, x, wl, dx, hd, sh, la', H1, hp, sp, st, LL[j], rfl, s6 _ _ (s5 _ _ e4), r6, pk, by omega, by omega, fun H7 la7 hp7 sp7 r7 g1 g2 => ?_⟩
      exact ⟨la7, hp7, sp7, _, _, _, rfl, r7, run4, by omega, by omega⟩
    · rintro σ H3 ⟨la', hp, sp, st, y3, y4, rfl, r3, run3, f1, f2⟩
      rw [Int.toNat_natCast, List.drop_length] at run3
      cases (show st = _ from run3)
      have kin : keyL kR ∈ (hp.map HE.x).map (·.1) := r3.hkeys.mpr (List.mem_map.mpr ⟨(kR, [root]), List.mem_map.mpr ⟨_, g.hasRoot, rfl⟩, rfl⟩)
      have gsome : (getX (hp.map HE.x) (keyL kR)).isSome = true := by
        obtain ⟨e, me, h⟩ := List.mem_map.mp kin
        unfold getX
        rw [Option.isSome_map, List.find?_isSome]
        exact ⟨e, me, decide_eq_true h⟩
      refine ⟨.ref x, rfl, x, CR, dx, _, _, rfl, r3.hx, L.cl, L.nh, lk_h .., hd, ra, hp.map HE.x, keyL kR, rfl, rfl, r3.hh, r3.keysH, by rw [keyL_kV]; exact hR H3, ?_⟩
      rw [gsome]
      refine ⟨false, rfl, iteF ⟨.ref x, rfl, x, CR, dx, _, _, rfl, r3.hx, L.cl, L.nh, lk_h .., .ref x, rfl, x, CR, dx, _, _, rfl, r3.hx, L.cl, L.ns, lk_s .., x, dx, hd, sh, la', H1, hp, sp, _, B, ks, fs, us, root, rfl, r3, rfl, rfl, g, ok, fun x' H' s' bc nx' => q x' H' ((s1.trans r3.sm).trans s') bc ((s1.trans r3.sm).free nx')⟩⟩
end
end NW
namespace NW
open PySem PySem.Spec PyProof.Rows L2
open TL (tl)
open StX (pa_star)
abbrev s_law : Stmt := topS 67
abbrev N_law : List Str := ["_law_script", "_law_box_here", "_law_schema_here", "_law_built", "_law_text", "_law_other", "_law_turn", "_law_given", "_law_back"]
theorem sc_law : FnScope N_law ["_law_script"] (defScope s_law) := ⟨rfl, rfl, rfl, by decide +kernel, rfl, by decide +kernel, by decide +kernel⟩
section
variable {ks : List KRow} {fs : List FRow} {us : List URow} {root : Str} {B : List Blk}
theorem GoodB.txt (g : GoodB ks fs us root B) (ok : SchOk ks fs us root) : Txt.join "\n" (B.flatMap blkT) = txtOf B ∧ (B.flatMap blkT).length ≤ 1000 ∧ ((B.flatMap blkT).map (·.length)).sum + (B.flatMap blkT).length * ("\n" : Str).length ≤ 16777216 := by
  have e := blkT_flat B
  obtain ⟨gl, gw⟩ := g.lines ok
  have e2 : B.flatMap blkT = ((lnsOf B).map (·.ws)).map ln := by rw [← e, List.map_map]; rfl
  refine ⟨by rw [← e]; rfl, by rw [← e, List.length_map]; omega, ?_⟩
  rw [e2]
  refine Nat.le_trans (txt_len (fun ws m => ?_) (by rw [List.length_map]; omega)) (by decide)
  obtain ⟨l, ml, rfl⟩ := List.mem_map.mp m
  exact ⟨(gw l ml).ws.2.1, low_le (gw l ml).ws.1⟩
end
section
variable {P : Program} {w : World} {K : PySem.W.Frag} {mg : Str → Option Value} {base : Heap}
def spLaw (K : PySem.W.Frag) : Sp := fun vs H Q _ => ∃ (a : Addr) (ns : List Int), vs = [.ref a] ∧ SqL K H a (ns.map V.int) ∧ ns.length ≤ 63 ∧ ∀ H', Q (.bl true) H'
open Classical in
theorem ok_law {f f1 f2 f3 f4 f5 f6 f7 f8 f9 f10 fE C : Addr} {fd fd1 fd2 fd3 fd4 fd5 fd6 fd7 fd8 fd9 fd10 fdE : FuncData} (D : Df K mg "law" s_law f fd ["_law_script"])
    (D_Lbox : Df K mg "_law_box" s_Lbox f1 fd1 ["_law_script"]) (G_Lbox : FnOk P w K mg base CX0 1 f1 fd1 ["_law_script"] (spLbox K))
    (D_Lschema : Df K mg "_law_schema" s_Lschema f2 fd2 ["_law_box_here", "_law_most", "_law_kinds"]) (G_Lschema : FnOk P w K mg base CX0 4 f2 fd2 ["_law_box_here", "_law_most", "_law_kinds"] spLschema)
    (D_Lmade : Df K mg "_law_made" s_Lmade f3 fd3 ["_law_schema_here"]) (G_Lmade : FnOk P w K mg base CX0 11 f3 fd3 ["_law_schema_here"] (spLmade C))
    (D_Lschema_blocks : Df K mg "_law_schema_blocks" s_Lschema_blocks f4 fd4 ["_law_schema_here", "_law_turned"]) (G_Lschema_blocks : FnOk P w K mg base CX0 3 f4 fd4 ["_law_schema_here", "_law_turned"] spLschema_blocks)
    (D_Llines : Df K mg "_law_lines" s_Llines f5 fd5 ["_law_blocks"]) (G_Llines : FnOk P w K mg base CX0 1 f5 fd5 ["_law_blocks"] spLlines)
    (D_Lmixed : Df K mg "_law_mixed" s_Lmixed f6 fd6 ["_law_box_here", "_law_row"]) (G_Lmixed : FnOk P w K mg base CX0 2 f6 fd6 ["_law_box_here", "_law_row"] spLmixed)
    (D_Lsame : Df K mg "_law_same" s_Lsame f7 fd7 ["_law_one", "_law_other"]) (G_Lsame : FnOk P w K mg base CX0 5 f7 fd7 ["_law_one", "_law_other"] (spLsame 4))
    (D_Lshows : Df K mg "_law_shows" s_Lshows f8 fd8 ["_law_built", "_law_schema_here"]) (G_Lshows : FnOk P w K mg base CX0 6 f8 fd8 ["_law_built", "_law_schema_here"] (spLshowsC C))
    (D_schema_text : Df K mg "schema_text" s_schema_text f9 fd9 ["schema"]) (G_schema_text : FnOk P w K mg base CX0 7 f9 fd9 ["schema"] (sp_schema_text C))
    (D_read_schema : Df K mg "read_schema" s_read_schema f10 fd10 ["text"]) (G_read_schema : FnOk P w K mg base CX0 12 f10 fd10 ["text"] (sp_read_schema C))
    (mE : EqM K C fE) (bE : Binds K fdE ["self", "other"] []) (G_eq : FnOk P w K mg base CX0 1 fE fdE ["self", "other"] (spEqB (REqG C)))
    (ci : ClsI K C) (T : Nms mg) (L : ClT K C) : FnOk P w K mg base CX0 13 f fd ["_law_script"] (spLaw K) := by
  refine D.F.ok sc_law (fun vs H Q E h => ?_) (fun cdv A outer s H vs Q E hr h => ?_)
  · obtain ⟨a, ns, rfl, _⟩ := h
    rfl
  · obtain ⟨a, ns, rfl, ha, hn, qq⟩ := h
    have hu := hu_of hr
    refine ⟨_, (pss_cons (ps_set (i := 1) sc_law.nd rfl (.inl rfl) (pe_call G_Lbox (hr.mono (by decide)) (by rfl) D_Lbox.g D_Lbox.F.kp D_Lbox.b .nil pass0 (pa_cons (pv 0) pa_nil)))
      (pss_cons (ps_set (i := 2) sc_law.nd rfl (.inl rfl) (pe_call G_Lschema (hr.mono (by decide)) (by rfl) D_Lschema.g D_Lschema.F.kp D_Lschema.b .nil pass0 (pa_cons (pv 1) (pa_cons pe_int (pa_cons pe_int pa_nil)))))
      (pss_cons (ps_set (i := 3) sc_law.nd rfl (.inl rfl) (pe_call G_Lmade (hr.mono (by decide)) (by rfl) D_Lmade.g D_Lmade.F.kp D_Lmade.b .nil pass0 (pa_cons (pv 2) pa_nil)))
      (pss_cons (ps_set (i := 4) sc_law.nd rfl (.inl rfl) (pe_join pe_str (pe_call G_Llines (hr.mono (by decide)) (by rfl) D_Llines.g D_Llines.F.kp D_Llines.b .nil pass0 (pa_cons (pe_call G_Lschema_blocks (hr.mono (by decide)) (by rfl) D_Lschema_blocks.g D_Lschema_blocks.F.kp D_Lschema_blocks.b .nil pass0 (pa_cons (pv 2) (pa_cons pe_bl pa_nil))) pa_nil))))
      (pss_cons (ps_set (i := 5) sc_law.nd rfl (.inl rfl) (pe_join pe_str (pe_call G_Llines (hr.mono (by decide)) (by rfl) D_Llines.g D_Llines.F.kp D_Llines.b .nil pass0 (pa_cons (pe_call G_Lmixed (hr.mono (by decide)) (by rfl) D_Lmixed.g D_Lmixed.F.kp D_Lmixed.b .nil pass0 (pa_cons (pv 1) (pa_cons (pe_call G_Lschema_blocks (hr.mono (by decide)) (by rfl) D_Lschema_blocks.g D_Lschema_blocks.F.kp D_Lschema_blocks.b .nil pass0 (pa_cons (pv 2) (pa_cons pe_bl pa_nil))) pa_nil))) pa_nil))))
      (pss_cons (ps_for PassesOwn.never rfl (pi_range1 (by rfl) T.n_range (pa_cons pe_int pa_nil)) (pg_name (i := 6) sc_law.nd rfl (.inl rfl))
       (pss_cons (ps_if (pt_not (pt_val (pe_call G_Lsame (hr.mono (by decide)) (by rfl) D_Lsame.g D_Lsame.F.kp D_Lsame.b .nil pass0 (pa_cons (pe_call G_schema_text (hr.mono (by decide)) (by rfl) D_schema_text.g D_schema_text.F.kp D_schema_text.b .nil pass0 (pa_cons (pv 3) pa_nil)) (pa_cons (pv 4) pa_nil)))))
         (pss_one (ps_ret pe_bl))
         pss_nil)
        (pss_one (ps_for PassesOwn.never rfl (pi_list (pe_lst (pa_cons (pv 4) (pa_cons (pv 5) pa_nil)))) (pg_name (i := 7) sc_law.nd rfl (.inl rfl))
         (pss_cons (ps_set (i := 8) sc_law.nd rfl (.inl rfl) (pe_call G_read_schema (hr.mono (by decide)) (by rfl) D_read_schema.g D_read_schema.F.kp D_read_schema.b .nil pass0 (pa_cons (pv 7) pa_nil)))
          (pss_one (ps_if (PW.pt (pw_or (pt_not (pt_cmpR (op_ownEq G_eq (hr.mono (by decide)) mE.at_ mE.fn bE pass0) (pv 8) (pv 3) (nomark _))) (pw_or (pt_not (pt_val (pe_call G_Lshows (hr.mono (by decide)) (by rfl) D_Lshows.g D_Lshows.F.kp D_Lshows.b .nil pass0 (pa_cons (pv 8) (pa_cons (pv 2) pa_nil))))) (pw_or1 (pt_not (pt_val (pe_call G_Lsame (hr.mono (by decide)) (by rfl) D_Lsame.g D_Lsame.F.kp D_Lsame.b .nil pass0 (pa_cons (pe_call G_schema_text (hr.mono (by decide)) (by rfl) D_schema_text.g D_schema_text.F.kp D_schema_text.b .nil pass0 (pa_cons (pv 8) pa_nil)) (pa_cons (pv 4) pa_nil)))))))))
           (pss_one (ps_ret pe_bl))
           pss_nil)))))))
      (pss_one (ps_ret pe_bl)))))))), ?_⟩
    have hS : ∀ n : Nat, n ≤ 1000 → n ≤ sizeLine := fun n h => Nat.le_trans h (by decide)
    refine ⟨.ref a, rfl, a, ns, rfl, ha, hn, fun H1 b r s1 nb nr B1 => ?_⟩
    refine ⟨.ref b, rfl, b, r, 4, 6, rfl, B1, by decide, by decide, by decide, fun q kt ft ut ks fs us root H2 hq S ok g2 B2 => ?_⟩
    refine ⟨.ref q, rfl, q, kt, ft, ut, ks, fs, us, root, rfl, ⟨hq, S, ok⟩, fun x H3 Bt3 s3 nx => ?_⟩
    have nxb : x ≠ b := B2.neb nx
    have ST3 : SchT H3 q kt ft ut ks fs us root := ⟨s3 _ _ hq, S.same s3, ok⟩
    have B3 := B2.same s3
    clear S hq s3 g2
    have keepS : ∀ {G G' : Hp}, Same G G' → SchT G q kt ft ut ks fs us root → SchT G' q kt ft ut ks fs us root := fun s st => ⟨s _ _ st.1, st.2.1.same s, ok⟩
    have gF := canB_good ok false
    have gT := canB_good ok true
    obtain ⟨xF1, xF2, xF3⟩ := gF.txt ok
    -- the text
    refine ⟨⟨_, rfl⟩, .ref q, rfl, q, kt, ft, ut, ks, fs, us, root, false, rfl, ST3, fun p ps H4 s4 np bk ec => ⟨p, canB false ks fs us root, rfl, ⟨ps, bk.1, fun x m => (bk.2 x m).1, ec⟩, Nat.le_trans (gF.few ok) (by decide), xF2, fun p5 H5 s5 n5 e5 => ⟨"\n", p5, _, rfl, rfl, .inl (SqL.of e5), xF3, ?_⟩⟩⟩
    rw [xF1]
    have sA := s4.trans s5
    have ST5 := keepS sA ST3
    have Bt5 := Bt3.same sA
    have B5 := B3.same sA
    -- in another order
    refine ⟨⟨_, rfl⟩, .ref b, rfl, .ref q, rfl, q, kt, ft, ut, ks, fs, us, root, true, rfl, ST5, fun p6 ps6 H6 s6 np6 bk6 ec6 => ?_⟩
    have B6 := B5.same s6
    have l6 : ps6.length ≤ 20 := by
      have := congrArg List.length ec6
      rw [List.length_map] at this
      have := gT.few ok
      omega
    refine ⟨b, r, p6, ps6, rfl, B6, B5.neb np6, bk6.1, fun x m => ⟨(bk6.2 x m).1, B5.neb (bk6.2 x m).2.2⟩, l6, fun p7 B' H7 pm g7 B7 bl7 => ?_⟩
    rw [ec6] at pm
    have gB := gT.perm pm
    obtain ⟨xB1, xB2, xB3⟩ := gB.txt ok
    refine ⟨p7, B', rfl, bl7, Nat.le_trans (gB.few ok) (by decide), xB2, fun p8 H8 s8 n8 e8 => ⟨"\n", p8, _, rfl, rfl, .inl (SqL.of e8), xB3, ?_⟩⟩
    rw [xB1]
    have ST8 : SchT H8 q kt ft ut ks fs us root := by
      obtain ⟨ys, eb⟩ := B6.lst
      have st6 := keepS s6 ST5
      refine keepS s8 ⟨g7 _ _ (ne_of st6.1 eb fun z => nomatch z) st6.1, st6.2.1.gr (Oth.lst eb) g7, ok⟩
    have Bt8 : BuiltAt C H8 x ks fs us root := by
      obtain ⟨ys, eb⟩ := B6.lst
      exact (((Bt5.same s6).gr (Oth.lst eb) g7 nxb)).same s8
    clear Bt3 Bt5 ST3 ST5 B1 B2 B3 B5 B6 B7 bk bk6 bl7 e5 e8 sA s4 s5 s6 s8 g7
    have eqf : ∀ {G : Hp} {x' : Addr}, BuiltC C G x' ks fs us root → ∃ d fs', G x' = some (.ins C d fs') := fun h => by
      obtain ⟨_, _, _, _, _, _, d, _, _, _, _, _, _, h, _⟩ := h
      exact ⟨d, _, h⟩
    have tne : ∀ (y : V), y ∈ [V.str (txtOf (canB false ks fs us root)), V.str (txtOf B')] → ∃ B0, y = .str (txtOf B0) ∧ GoodB ks fs us root B0 := fun y m => by
      rcases List.mem_cons.mp m with rfl | m
      · exact ⟨_, rfl, gF⟩
      · rw [List.mem_singleton.mp m]
        exact ⟨_, rfl, gB⟩
    refine ⟨_, rfl, by decide, by decide, for_range (lo := 0) (n := 2) (fun i σ H' => ∃ y6 y7 y8 : Option V, σ = [some (.ref a), some (.ref b), some (.ref q), some (.ref x), some (.str (txtOf (canB false ks fs us root))), some (.str (txtOf B')), y6, y7, y8] ∧ Same H8 H') ?_ ?_ ?_⟩
    · exact ⟨_, _, _, rfl, Same.refl _⟩
    · rintro i σ H9 hi ⟨y6, y7, y8, rfl, s9⟩
      refine ⟨.ref x, rfl, x, ks, fs, us, root, rfl, (Bt8.same s9).c, ok, fun H10 s10 => ⟨_, rfl, _, _, rfl, SameV.strV, fun H11 s11 => ⟨true, rfl, iteF ?_⟩⟩⟩
      have s811 := (s9.trans s10).trans s11
      refine ⟨.str _, rfl, .str _, rfl, hS 2 (by decide), fun pg npg => ?_⟩
      have s12 := same_new (o := .lst [V.str (txtOf (canB false ks fs us root)), V.str (txtOf B')]) npg
      have e12 : (upd H11 pg (.lst [V.str (txtOf (canB false ks fs us root)), V.str (txtOf B')])) pg = some (.lst [V.str (txtOf (canB false ks fs us root)), V.str (txtOf B')]) := upd_same
      generalize upd H11 pg (.lst [V.str (txtOf (canB false ks fs us root)), V.str (txtOf B')]) = H12 at s12 e12
      refine ⟨pg, rfl, ⟨_, SqL.of e12⟩, for_list (xs := [V.str (txtOf (canB false ks fs us root)), V.str (txtOf B')]) (fun j σ H' => ∃ y7 y8 : Option V, σ = [some (.ref a), some (.ref b), some (.ref q), some (.ref x), some (.str (txtOf (canB false ks fs us root))), some (.str (txtOf B')), some (.int (0 + (i : Int))), y7, y8] ∧ Same H12 H') ?_ ?_ ?_ ?_⟩
      · exact ⟨_, _, rfl, Same.refl _⟩
      · rintro j σ H' _ ⟨_, _, _, s'⟩
        exact SqL.of (s' _ _ e12)
      · rintro j y σ H13 ey ⟨y7, y8, rfl, s13⟩
        obtain ⟨B0, rfl, g0⟩ := tne y (List.mem_of_getElem? ey)
        have sx := (s811.trans s12).trans s13
        refine ⟨.str (txtOf B0), rfl, B0, ks, fs, us, root, rfl, g0, ok, fun x' H14 s14 bc nx' => ?_⟩
        have sx14 := sx.trans s14
        obtain ⟨d1, f1, h1⟩ := eqf bc
        obtain ⟨d2, f2, h2⟩ := eqf (Bt8.same sx14).c
        have hE : ∃ ks' fs' us', BuiltAt C H14 x' ks' fs' us' root ∧ SchOk ks' fs' us' root ∧ SchE ks' fs' us' root ks fs us root := by
          obtain ⟨ks', fs', us', tk, tf, tu, bt⟩ := bc
          refine ⟨ks', fs', us', bt, ok.turnC tk tf tu, ?_⟩
          exact SchE.symm ⟨tk.e ok.ndk (fun k m => (ok.kd k m).nd), tf.e ok.ndf (fun k m => (ok.fd k m).nd), tu.e ok.ndu, rfl⟩
        obtain ⟨ks', fs', us', bt', ok', hE⟩ := hE
        refine ⟨.ref x', rfl, .ref x, rfl, x', x, d1, d2, _, _, decide (SchE ks' fs' us' root ks fs us root), rfl, rfl, h1, h2, ⟨ks', fs', us', root, ks, fs, us, root, bt', Bt8.same sx14, ok', ok, rfl⟩, fun H15 s15 => ⟨true, ?_, iteF ?_⟩⟩
        · rw [Bool.false_xor, decide_eq_true hE]
        have sx15 := sx14.trans s15
        refine ⟨.ref x', rfl, .ref q, rfl, x', q, kt, ft, ut, ks, fs, us, root, rfl, bc.same s15, keepS sx15 ST8, fun H16 s16 => ⟨true, rfl, iteF ?_⟩⟩
        refine ⟨.ref x', rfl, x', ks, fs, us, root, rfl, (bc.same s15).same s16, ok, fun H17 s17 => ⟨_, rfl, _, _, rfl, SameV.strV, fun H18 s18 => ⟨true, rfl, iteF ?_⟩⟩⟩
        exact ⟨_, _, rfl, (((s13.trans s14).trans s15).trans s16).trans (s17.trans s18)⟩
      · rintro σ H13 ⟨y7, y8, rfl, s13⟩
        exact ⟨_, _, _, rfl, (s811.trans s12).trans s13⟩
    · rintro σ H9 _
      exact qq H9
end
end NW
namespace NW
open PySem PySem.Spec PyProof.Rows L2
section
variable {K : PySem.W.Frag} {h : Heap} {mg : Str → Option Value} {nm qn : Str} {d0 : Stmt} {fa C : Addr} {pars : List Str} {oc kV dc pm cd ct : Value} {od an : Option Addr} {sl : Array (Option Value)}
theorem df_mk (X : K.In h) (G : h.Ns mainGlobals mg) (a : PySem.W.nsIn K mainGlobals nm = some (some (.ref fa)))
    (l : K.lookup fa = some ⟨oc, od, .func (PySem.W.fnOf nm nm (defArgs d0) (defBody d0) (defScope d0) .none kV dc pm an cd ct), sl⟩) (c : PySem.W.codeIn K cd nm = true) (k : PySem.W.keepIn K (.ref fa) = true)
    (b : ∀ (kV doc pm : Value) (an : Option Addr) (cdv ct : Value) (us : List Value), us.length = pars.length → bindArgs (PySem.W.fnOf nm nm (defArgs d0) (defBody d0) (defScope d0) .none kV doc pm an cdv ct) ⟨us, []⟩ = pure (pars.zip us)) :
    ∃ f fd, Df K mg nm d0 f fd pars := ⟨fa, _, fun_mk l c k, (fun_mk l c k).binds b, PySem.W.mg_of X G a⟩
theorem mt_mk (a : PySem.W.findIn K (.ref C) nm = some (some (.ref fa))) (i : PySem.W.isFn K (.ref fa) = true)
    (l : K.lookup fa = some ⟨oc, od, .func (PySem.W.fnOf nm qn (defArgs d0) (defBody d0) (defScope d0) .none kV dc pm an cd ct), sl⟩) (c : PySem.W.codeIn K cd qn = true) (k : PySem.W.keepIn K (.ref fa) = true)
    (b : ∀ (kV doc pm : Value) (an : Option Addr) (cdv ct : Value) (us : List Value), us.length = pars.length → bindArgs (PySem.W.fnOf nm qn (defArgs d0) (defBody d0) (defScope d0) .none kV doc pm an cdv ct) ⟨us, []⟩ = pure (pars.zip us)) :
    ∃ f fd, Mt K C nm qn d0 f fd pars := ⟨fa, _, fun_mk l c k, (fun_mk l c k).binds b, a, i, k⟩
theorem tup_mk {a : Addr} {n : Nat} {z1 z2 : Str} {t1 t2 : Nat} (l : K.lookup a = some ⟨.type "tuple", od, .seq #[.str z1 t1, .str z2 t2] n, sl⟩) : ∀ H, SqT K H a [.str z1, .str z2] := fun H =>
  .inr ⟨_, _, _, l, rfl, rfl, by show 2 ≤ sizeLine; decide, .cons ⟨_, rfl⟩ (.cons ⟨_, rfl⟩ .nil)⟩
end
theorem dfs_mk {K : PySem.W.Frag} {h : Heap} {mg : Str → Option Value} (X : K.In h) (G : h.Ns mainGlobals mg) {fa T : Addr} {oc kV dc pm cd ct : Value} {od an od2 : Option Addr} {sl sl2 : Array (Option Value)} {n t1 t2 : Nat} {tc : Value}
    (a : PySem.W.nsIn K mainGlobals "is_shape" = some (some (.ref fa)))
    (l : K.lookup fa = some ⟨oc, od, .func (PySem.W.fnOf "is_shape" "is_shape" (defArgs s_is_shape) (defBody s_is_shape) (defScope s_is_shape) (.ref T) kV dc pm an cd ct), sl⟩) (c : PySem.W.codeIn K cd "is_shape" = true) (k : PySem.W.keepIn K (.ref fa) = true)
    (lT : K.lookup T = some ⟨tc, od2, .seq #[.int 4 t1, .str "" t2] n, sl2⟩) : ∃ f fd, DfS K mg f fd := by
  have F : FunD K "is_shape" "is_shape" (defArgs s_is_shape) (defBody s_is_shape) (defScope s_is_shape) [.int 4, .str ""] [] fa _ :=
    ⟨⟨oc, od, .ref T, kV, dc, pm, an, cd, ct, sl, rfl, l, c, .inr ⟨(by intro z; cases z), T, _, [.int 4 t1, .str "" t2], n, rfl, lT, rfl, .cons ⟨_, rfl⟩ (.cons ⟨_, rfl⟩ .nil)⟩, .inl rfl⟩, k⟩
  refine ⟨fa, _, F, PySem.W.mg_of X G a, ?_, ?_⟩
  · obtain ⟨ds, r, b⟩ := F.binds1 (ps := ["shape", "bases", "room", "outer"]) 4 2 (by intro z; cases z) rfl fun T kV doc pm an cdv ct us its hu hi => match us, hu, its, hi with | [_, _, _, _], _, [_, _], _ => ⟨_, rfl, rfl⟩
    cases r
    exact b
  · exact F.binds1 (ps := ["shape", "bases", "room", "outer"]) 2 0 (by intro z; cases z) rfl fun T kV doc pm an cdv ct us its hu hi => match us, hu, its, hi with | [_, _], _, [_, _], _ => ⟨_, rfl, rfl⟩
end NW
namespace NW
open PySem PySem.Spec PyProof.Rows L2
theorem all_ok {P : Program} {w : World} {K : PySem.W.Frag} {mg : Str → Option Value} {base : Heap} {fl C CN CF CR : Addr} {fdl : FuncData} (D : Df K mg "law" s_law fl fdl ["_law_script"])
    (D_is_name : ∃ f fd, Df K mg "is_name" s_is_name f fd ["word"])
    (D_is_key : ∃ f fd, Df K mg "is_key" s_is_key f fd ["name", "table"])
    (D_is_table : ∃ f fd, Df K mg "is_table" s_is_table f fd ["table", "least", "most", "taken"])
    (D_is_choice : ∃ f fd, Df K mg "is_choice" s_is_choice f fd ["names", "table"])
    (D_is_fields : ∃ f fd, Df K mg "is_fields" s_is_fields f fd ["fields", "most", "bases"])
    (D_is_kind : ∃ f fd, Df K mg "is_kind" s_is_kind f fd ["worth", "faces", "bases"])
    (D_has_fields : ∃ f fd, Df K mg "has_fields" s_has_fields f fd ["holder", "fields"])
    (D_is_union : ∃ f fd, Df K mg "is_union" s_is_union f fd ["worth", "kinds"])
    (D_is_face : ∃ f fd, Df K mg "is_face" s_is_face f fd ["name", "fields", "kinds", "bases"])
    (D_check_names : ∃ f fd, Df K mg "check_names" s_check_names f fd ["kinds", "faces", "unions"])
    (D_check_schema : ∃ f fd, Df K mg "check_schema" s_check_schema f fd ["kinds", "faces", "unions", "root"])
    (D_Lbox : ∃ f fd, Df K mg "_law_box" s_Lbox f fd ["_law_script"])
    (D_Ldraw : ∃ f fd, Df K mg "_law_draw" s_Ldraw f fd ["_law_box_here", "_law_many"])
    (D_Lwords : ∃ f fd, Df K mg "_law_words" s_Lwords f fd ["_law_box_here", "_law_many"])
    (D_Lshape : ∃ f fd, Df K mg "_law_shape" s_Lshape f fd ["_law_box_here", "_law_bases_here", "_law_most"])
    (D_Lkind : ∃ f fd, Df K mg "_law_kind" s_Lkind f fd ["_law_box_here", "_law_faces", "_law_names", "_law_common", "_law_bases_here", "_law_most"])
    (D_Lschema : ∃ f fd, Df K mg "_law_schema" s_Lschema f fd ["_law_box_here", "_law_most", "_law_kinds"])
    (D_Lmembers : ∃ f fd, Df K mg "_law_members" s_Lmembers f fd ["_law_schema_here", "_law_base"])
    (D_Lbases : ∃ f fd, Df K mg "_law_bases" s_Lbases f fd ["_law_schema_here"])
    (D_Lmade : ∃ f fd, Df K mg "_law_made" s_Lmade f fd ["_law_schema_here"])
    (D_Lsame : ∃ f fd, Df K mg "_law_same" s_Lsame f fd ["_law_one", "_law_other"])
    (D_Ltable : ∃ f fd, Df K mg "_law_table" s_Ltable f fd ["_law_schema_here", "_law_base"])
    (D_Lshows : ∃ f fd, Df K mg "_law_shows" s_Lshows f fd ["_law_built", "_law_schema_here"])
    (D_Lin_order : ∃ f fd, Df K mg "_law_in_order" s_Lin_order f fd ["_law_row", "_law_turned"])
    (D_Lshape_words : ∃ f fd, Df K mg "_law_shape_words" s_Lshape_words f fd ["_law_shape_here"])
    (D_Lfield_lines : ∃ f fd, Df K mg "_law_field_lines" s_Lfield_lines f fd ["_law_table_here", "_law_turned"])
    (D_Lschema_blocks : ∃ f fd, Df K mg "_law_schema_blocks" s_Lschema_blocks f fd ["_law_schema_here", "_law_turned"])
    (D_Llines : ∃ f fd, Df K mg "_law_lines" s_Llines f fd ["_law_blocks"])
    (D_Lmixed : ∃ f fd, Df K mg "_law_mixed" s_Lmixed f fd ["_law_box_here", "_law_row"])
    (D_lines_of : ∃ f fd, Df K mg "lines_of" s_lines_of f fd ["text"])
    (D_schema_text : ∃ f fd, Df K mg "schema_text" s_schema_text f fd ["schema"])
    (D_field_lines : ∃ f fd, Df K mg "field_lines" s_field_lines f fd ["schema", "base"])
    (D_shape_words : ∃ f fd, Df K mg "shape_words" s_shape_words f fd ["shape"])
    (D_read_schema : ∃ f fd, Df K mg "read_schema" s_read_schema f fd ["text"])
    (D_is_schema_line : ∃ f fd, Df K mg "is_schema_line" s_is_schema_line f fd ["words"])
    (D_heading_of : ∃ f fd, Df K mg "heading_of" s_heading_of f fd ["words"])
    (D_shape_from : ∃ f fd, Df K mg "shape_from" s_shape_from f fd ["words"])
    (D_schema_of : ∃ f fd, Df K mg "schema_of" s_schema_of f fd ["headings", "shapes"])
    (D_is_shape : ∃ f fd, DfS K mg f fd)
    (RH : ∃ ra, mg "ROOT_HEADING" = some (.ref ra) ∧ ∀ H, SqT K H ra [.str "root", .str ""])
    (M_bases : ∃ f fd, Mt K C "bases" "Schema.bases" s_Schema_bases f fd ["self"])
    (M_shapes_at : ∃ f fd, Mt K C "shapes_at" "Schema.shapes_at" s_Schema_shapes_at f fd ["self", "base"])
    (M_fields : ∃ f fd, Mt K C "fields" "Schema.fields" s_Schema_fields f fd ["self", "base"])
    (M_shape_of : ∃ f fd, Mt K C "shape_of" "Schema.shape_of" s_Schema_shape_of f fd ["self", "base", "field"])
    (M_kinds : ∃ f fd, Mt K C "kinds" "Schema.kinds" s_Schema_kinds f fd ["self"])
    (M_faces : ∃ f fd, Mt K C "faces" "Schema.faces" s_Schema_faces f fd ["self"])
    (M_unions : ∃ f fd, Mt K C "unions" "Schema.unions" s_Schema_unions f fd ["self"])
    (M_members : ∃ f fd, Mt K C "members" "Schema.members" s_Schema_members f fd ["self", "base"])
    (M_has_room : ∃ f fd, Mt K CR "has_room" "SchemaReading.has_room" s_SchemaReading_has_room f fd ["self", "words"])
    (M_take_line : ∃ f fd, Mt K CR "take_line" "SchemaReading.take_line" s_SchemaReading_take_line f fd ["self", "words"])
    (I : ∃ f fd, Fun K "__init__" "Schema.__init__" s_Schema_init f fd ∧ Binds K fd ["self", "kinds", "faces", "unions", "root"] [] ∧ Mk K C f)
    (J : ∃ f fd, Fun K "__contains__" "Schema.__contains__" s_Schema_contains f fd ∧ Binds K fd ["self", "base"] [] ∧ InM K C f)
    (Qe : ∃ f fd, Fun K "__eq__" "Schema.__eq__" s_Schema_eq f fd ∧ Binds K fd ["self", "other"] [] ∧ EqM K C f)
    (RI : ∃ f fd, Fun K "__init__" "SchemaReading.__init__" s_SchemaReading_init f fd ∧ Binds K fd ["self"] [] ∧ Mk K CR f)
    (B_NoBase : ∃ f fd, Fun K "__init__" "NoBase.__init__" s_NoBase_init f fd ∧ Binds K fd ["self", "base"] [] ∧ NoB K mg CN f)
    (B_NoField : ∃ f fd, Fun K "__init__" "NoField.__init__" s_NoField_init f fd ∧ Binds K fd ["self", "base", "field"] [] ∧ NoF K mg CF f)
    (T : Nms mg) (Cs : Cst K mg) (L : ClT K C) (gS : mg "Schema" = some (.ref C))
    (ci : ClsI K C)
    (X_NoBase : XfC K CN)
    (X_NoField : XfC K CF)
    (f_NoBase_base : PySem.W.findIn K (.ref CN) "base" = some none)
    (f_NoField_base : PySem.W.findIn K (.ref CF) "base" = some none)
    (f_NoField_field : PySem.W.findIn K (.ref CF) "field" = some none)
    (LR : RC K CR)
    (gRd : mg "SchemaReading" = some (.ref CR)) :
    FnOk P w K mg base CX0 13 fl fdl ["_law_script"] (spLaw K) := by
  obtain ⟨f_is_name, fd_is_name, D_is_name⟩ := D_is_name
  obtain ⟨f_is_key, fd_is_key, D_is_key⟩ := D_is_key
  obtain ⟨f_is_table, fd_is_table, D_is_table⟩ := D_is_table
  obtain ⟨f_is_choice, fd_is_choice, D_is_choice⟩ := D_is_choice
  obtain ⟨f_is_fields, fd_is_fields, D_is_fields⟩ := D_is_fields
  obtain ⟨f_is_kind, fd_is_kind, D_is_kind⟩ := D_is_kind
  obtain ⟨f_has_fields, fd_has_fields, D_has_fields⟩ := D_has_fields
  obtain ⟨f_is_union, fd_is_union, D_is_union⟩ := D_is_union
  obtain ⟨f_is_face, fd_is_face, D_is_face⟩ := D_is_face
  obtain ⟨f_check_names, fd_check_names, D_check_names⟩ := D_check_names
  obtain ⟨f_check_schema, fd_check_schema, D_check_schema⟩ := D_check_schema
  obtain ⟨f_Lbox, fd_Lbox, D_Lbox⟩ := D_Lbox
  obtain ⟨f_Ldraw, fd_Ldraw, D_Ldraw⟩ := D_Ldraw
  obtain ⟨f_Lwords, fd_Lwords, D_Lwords⟩ := D_Lwords
  obtain ⟨f_Lshape, fd_Lshape, D_Lshape⟩ := D_Lshape
  obtain ⟨f_Lkind, fd_Lkind, D_Lkind⟩ := D_Lkind
  obtain ⟨f_Lschema, fd_Lschema, D_Lschema⟩ := D_Lschema
  obtain ⟨f_Lmembers, fd_Lmembers, D_Lmembers⟩ := D_Lmembers
  obtain ⟨f_Lbases, fd_Lbases, D_Lbases⟩ := D_Lbases
  obtain ⟨f_Lmade, fd_Lmade, D_Lmade⟩ := D_Lmade
  obtain ⟨f_Lsame, fd_Lsame, D_Lsame⟩ := D_Lsame
  obtain ⟨f_Ltable, fd_Ltable, D_Ltable⟩ := D_Ltable
  obtain ⟨f_Lshows, fd_Lshows, D_Lshows⟩ := D_Lshows
  obtain ⟨f_Lin_order, fd_Lin_order, D_Lin_order⟩ := D_Lin_order
  obtain ⟨f_Lshape_words, fd_Lshape_words, D_Lshape_words⟩ := D_Lshape_words
  obtain ⟨f_Lfield_lines, fd_Lfield_lines, D_Lfield_lines⟩ := D_Lfield_lines
  obtain ⟨f_Lschema_blocks, fd_Lschema_blocks, D_Lschema_blocks⟩ := D_Lschema_blocks
  obtain ⟨f_Llines, fd_Llines, D_Llines⟩ := D_Llines
  obtain ⟨f_Lmixed, fd_Lmixed, D_Lmixed⟩ := D_Lmixed
  obtain ⟨f_lines_of, fd_lines_of, D_lines_of⟩ := D_lines_of
  obtain ⟨f_schema_text, fd_schema_text, D_schema_text⟩ := D_schema_text
  obtain ⟨f_field_lines, fd_field_lines, D_field_lines⟩ := D_field_lines
  obtain ⟨f_shape_words, fd_shape_words, D_shape_words⟩ := D_shape_words
  obtain ⟨f_read_schema, fd_read_schema, D_read_schema⟩ := D_read_schema
  obtain ⟨f_is_schema_line, fd_is_schema_line, D_is_schema_line⟩ := D_is_schema_line
  obtain ⟨f_heading_of, fd_heading_of, D_heading_of⟩ := D_heading_of
  obtain ⟨f_shape_from, fd_shape_from, D_shape_from⟩ := D_shape_from
  obtain ⟨f_schema_of, fd_schema_of, D_schema_of⟩ := D_schema_of
  obtain ⟨f_is_shape, fd_is_shape, D_is_shape⟩ := D_is_shape
  obtain ⟨f_, fd_, RH⟩ := RH
  obtain ⟨f_bases, fd_bases, M_bases⟩ := M_bases
  obtain ⟨f_shapes_at, fd_shapes_at, M_shapes_at⟩ := M_shapes_at
  obtain ⟨f_fields, fd_fields, M_fields⟩ := M_fields
  obtain ⟨f_shape_of, fd_shape_of, M_shape_of⟩ := M_shape_of
  obtain ⟨f_kinds, fd_kinds, M_kinds⟩ := M_kinds
  obtain ⟨f_faces, fd_faces, M_faces⟩ := M_faces
  obtain ⟨f_unions, fd_unions, M_unions⟩ := M_unions
  obtain ⟨f_members, fd_members, M_members⟩ := M_members
  obtain ⟨f_has_room, fd_has_room, M_has_room⟩ := M_has_room
  obtain ⟨f_take_line, fd_take_line, M_take_line⟩ := M_take_line
  obtain ⟨fI, fdI, FI, bI, MS⟩ := I
  obtain ⟨fJ, fdJ, FJ, bJ, mC⟩ := J
  obtain ⟨fE, fdE, FE, bE, mE⟩ := Qe
  obtain ⟨fR, fdR, FR, bR, MR⟩ := RI
  obtain ⟨fNoBase, fdNoBase, FNoBase, bNoBase, NNoBase⟩ := B_NoBase
  obtain ⟨fNoField, fdNoField, FNoField, bNoField, NNoField⟩ := B_NoField
  have G_is_table := ok_is_table (P := P) (w := w) (base := base) D_is_table D_is_name T Cs
  have G_is_key := ok_is_key (P := P) (w := w) (base := base) D_is_key T
  have G_is_choice := ok_is_choice (P := P) (w := w) (base := base) D_is_choice D_is_key T
  have G_is_fields := ok_is_fields D_is_fields D_is_table D_is_shape T Cs G_is_table
  have G_is_kind := ok_is_kind D_is_kind D_is_choice D_is_fields T Cs G_is_choice G_is_fields
  have G_is_union := ok_is_union D_is_union D_is_choice T Cs G_is_choice
  have G_is_face := ok_is_face D_is_face D_is_fields D_has_fields T Cs G_is_fields
  have G_check_names := ok_check_names D_check_names D_is_table T Cs G_is_table
  have G_check_schema := ok_check_schema D_check_schema D_check_names D_is_kind D_is_face D_is_union D_is_key T Cs G_check_names G_is_kind G_is_face G_is_union G_is_key
  have G_init := ok_init FI D_check_schema T L G_check_schema
  have G_bases := ok_bases (P := P) (w := w) (base := base) M_bases.F L Cs
  have G_contains := ok_contains FJ M_bases D_is_key T L G_bases G_is_key
  have G_Ldraw := ok_Ldraw (P := P) (w := w) (base := base) D_Ldraw T
  have G_Lwords := ok_Lwords (P := P) (w := w) (base := base) D_Lwords D_Ldraw T
  have G_Lshape := ok_Lshape (P := P) (w := w) (base := base) D_Lshape D_Ldraw T
  have G_Lkind := ok_Lkind (P := P) (w := w) (base := base) D_Lkind D_Ldraw D_Lshape T
  have G_Lschema := ok_Lschema D_Lschema D_Ldraw D_Lshape D_Lwords D_Lkind T G_Ldraw G_Lshape G_Lwords G_Lkind
  have G_NB := ok_NB (P := P) (w := w) (mg := mg) (base := base) FNoBase NNoBase
  have G_NF := ok_NF (P := P) (w := w) (mg := mg) (base := base) FNoField NNoField
  have G_shapes_at := ok_shapes_at M_shapes_at.F mC bJ G_contains NNoBase bNoBase G_NB T L
  have G_fields := ok_fields M_fields.F M_shapes_at G_shapes_at T L
  have G_shape_of := ok_shape_of M_shape_of.F M_shapes_at G_shapes_at D_is_key G_is_key NNoField bNoField G_NF T L
  have G_kinds := ok_kinds (P := P) (w := w) (base := base) M_kinds.F T L
  have G_faces := ok_faces (P := P) (w := w) (base := base) M_faces.F T L
  have G_unions := ok_unions (P := P) (w := w) (base := base) M_unions.F T L
  have G_members := ok_members M_members.F mC bJ G_contains NNoBase bNoBase G_NB T L
  have G_Lsame := ok_Lsame (P := P) (w := w) (base := base) D_Lsame T 4
  have G_Lbases := ok_Lbases (P := P) (w := w) (base := base) D_Lbases T
  have G_Lshows := ok_LshowsC D_Lshows D_Lsame G_Lsame M_kinds (kindsC G_kinds) M_faces (facesC G_faces) M_unions (unionsC G_unions) D_Lbases G_Lbases M_members (membersC G_members) D_Lmembers (ok_Lmembers D_Lmembers T) D_Ltable (ok_Ltable D_Ltable T) M_fields (fieldsC G_fields) M_shape_of (shape_ofC G_shape_of) T L
  have G_eq := ok_eqG (P := P) (w := w) (base := base) FE T L gS ci
  have G_Lin_order := ok_Lin_order (P := P) (w := w) (base := base) D_Lin_order T
  have G_Lfield_lines := ok_Lfield_lines (P := P) (w := w) (base := base) D_Lfield_lines D_Lin_order D_Lshape_words T
  have G_Lschema_blocks := ok_Lschema_blocks D_Lschema_blocks D_Lin_order G_Lin_order D_Lfield_lines G_Lfield_lines T
  have G_Llines := ok_Llines (P := P) (w := w) (base := base) D_Llines
  have G_Lmixed := ok_Lmixed (P := P) (w := w) (base := base) D_Lmixed D_Ldraw T
  have G_shape_words := ok_shape_words (P := P) (w := w) (base := base) D_shape_words T 4 (Nat.le_refl _)
  have G_field_lines := ok_field_lines D_field_lines M_fields (fieldsC G_fields) M_shape_of (shape_ofC G_shape_of) D_shape_words G_shape_words T L
  have G_schema_text := ok_schema_text D_schema_text M_kinds (kindsC G_kinds) M_faces (facesC G_faces) M_unions (unionsC G_unions) M_members (membersC G_members) D_field_lines G_field_lines T L
  have G_lines_of := ok_lines_of (P := P) (w := w) (base := base) D_lines_of T
  obtain ⟨wa, g_W, hW⟩ := Cs.WRAPPERS
  have G_is_schema_line := ok_is_schema_line (P := P) (w := w) (base := base) D_is_schema_line D_is_name g_W hW T Cs
  have G_heading_of := heading2 (ok_heading_of (P := P) (w := w) (base := base) D_heading_of fd_ RH T)
  have G_shape_from := ok_shape_from (P := P) (w := w) (base := base) D_shape_from T
  have G_rinit := ok_rd_init (P := P) (w := w) (mg := mg) (base := base) FR LR
  have G_has_room := ok_has_room (P := P) (w := w) (base := base) M_has_room.F D_heading_of G_heading_of T LR
  have G_take_line := ok_take_line (P := P) (w := w) (base := base) M_take_line.F D_heading_of G_heading_of D_shape_from G_shape_from T LR
  have G_schema_of := ok_schema_of (P := P) (w := w) (base := base) (CR := CR) D_schema_of fd_ RH T MS gS bI G_init
  have G_read_schema := ok_read_schema D_read_schema D_lines_of G_lines_of D_is_schema_line G_is_schema_line MR gRd bR G_rinit M_has_room G_has_room M_take_line G_take_line D_schema_of G_schema_of fd_ RH T LR
  exact ok_law D D_Lbox (ok_Lbox D_Lbox T) D_Lschema G_Lschema D_Lmade (ok_Lmade D_Lmade T MS gS bI G_init) D_Lschema_blocks G_Lschema_blocks D_Llines G_Llines D_Lmixed G_Lmixed D_Lsame G_Lsame D_Lshows G_Lshows D_schema_text G_schema_text D_read_schema G_read_schema mE bE G_eq ci T L
end NW
namespace NW
open PySem PySem.Spec PyProof.Rows L2
structure ClsAll (K : PySem.W.Frag) (mg : Str → Option Value) (C CN CF CR : Addr) : Prop where
  m0 : ∃ f fd, Mt K C "bases" "Schema.bases" s_Schema_bases f fd ["self"]
  m1 : ∃ f fd, Mt K C "shapes_at" "Schema.shapes_at" s_Schema_shapes_at f fd ["self", "base"]
  m2 : ∃ f fd, Mt K C "fields" "Schema.fields" s_Schema_fields f fd ["self", "base"]
  m3 : ∃ f fd, Mt K C "shape_of" "Schema.shape_of" s_Schema_shape_of f fd ["self", "base", "field"]
  m4 : ∃ f fd, Mt K C "kinds" "Schema.kinds" s_Schema_kinds f fd ["self"]
  m5 : ∃ f fd, Mt K C "faces" "Schema.faces" s_Schema_faces f fd ["self"]
  m6 : ∃ f fd, Mt K C "unions" "Schema.unions" s_Schema_unions f fd ["self"]
  m7 : ∃ f fd, Mt K C "members" "Schema.members" s_Schema_members f fd ["self", "base"]
  m8 : ∃ f fd, Mt K CR "has_room" "SchemaReading.has_room" s_SchemaReading_has_room f fd ["self", "words"]
  m9 : ∃ f fd, Mt K CR "take_line" "SchemaReading.take_line" s_SchemaReading_take_line f fd ["self", "words"]
  I : ∃ f fd, L2.Fun K "__init__" "Schema.__init__" s_Schema_init f fd ∧ L2.Binds K fd ["self", "kinds", "faces", "unions", "root"] [] ∧ L2.Mk K C f
  J : ∃ f fd, L2.Fun K "__contains__" "Schema.__contains__" s_Schema_contains f fd ∧ L2.Binds K fd ["self", "base"] [] ∧ InM K C f
  Qe : ∃ f fd, L2.Fun K "__eq__" "Schema.__eq__" s_Schema_eq f fd ∧ L2.Binds K fd ["self", "other"] [] ∧ EqM K C f
  RI : ∃ f fd, L2.Fun K "__init__" "SchemaReading.__init__" s_SchemaReading_init f fd ∧ L2.Binds K fd ["self"] [] ∧ L2.Mk K CR f
  B_NoBase : ∃ f fd, L2.Fun K "__init__" "NoBase.__init__" s_NoBase_init f fd ∧ L2.Binds K fd ["self", "base"] [] ∧ NoB K mg CN f
  B_NoField : ∃ f fd, L2.Fun K "__init__" "NoField.__init__" s_NoField_init f fd ∧ L2.Binds K fd ["self", "base", "field"] [] ∧ NoF K mg CF f
  L : ClT K C
  ci : ClsI K C
  X_NoBase : L2.XfC K CN
  X_NoField : L2.XfC K CF
  f_NoBase_base : PySem.W.findIn K (.ref CN) "base" = some none
  f_NoField_base : PySem.W.findIn K (.ref CF) "base" = some none
  f_NoField_field : PySem.W.findIn K (.ref CF) "field" = some none
  LR : RC K CR
theorem cst_mk {K : PySem.W.Frag} {h : Heap} {mg : Str → Option Value} (X : K.In h) (G : h.Ns mainGlobals mg) {v0 v1 v4 v5 v6 v7 v8 v9 : Value} {a2 a3 : Addr} {p2 p3 : Option Addr} {s2 s3 : Array (Option Value)} {n2 n3 : Nat} {t2 u2 t3 u3 : Nat}
    (c0 : PySem.W.nsIn K mainGlobals "LETTERS" = some (some v0)) (d0 : ∃ t, v0 = .str LET t) (c1 : PySem.W.nsIn K mainGlobals "LONGEST" = some (some v1)) (d1 : ∃ t, v1 = .int 8 t)
    (c2 : PySem.W.nsIn K mainGlobals "LEAVES" = some (some (.ref a2))) (l2 : K.lookup a2 = some ⟨.type "tuple", p2, .seq #[.str "number" t2, .str "text" u2] n2, s2⟩)
    (c3 : PySem.W.nsIn K mainGlobals "WRAPPERS" = some (some (.ref a3))) (l3 : K.lookup a3 = some ⟨.type "tuple", p3, .seq #[.str "list" t3, .str "sure" u3] n3, s3⟩)
    (c4 : PySem.W.nsIn K mainGlobals "MOST_KINDS" = some (some v4)) (d4 : ∃ t, v4 = .int 6 t) (c5 : PySem.W.nsIn K mainGlobals "MOST_FACES" = some (some v5)) (d5 : ∃ t, v5 = .int 3 t)
    (c6 : PySem.W.nsIn K mainGlobals "MOST_UNIONS" = some (some v6)) (d6 : ∃ t, v6 = .int 3 t) (c7 : PySem.W.nsIn K mainGlobals "MOST_KIND_FIELDS" = some (some v7)) (d7 : ∃ t, v7 = .int 5 t)
    (c8 : PySem.W.nsIn K mainGlobals "MOST_FACE_FIELDS" = some (some v8)) (d8 : ∃ t, v8 = .int 4 t) (c9 : PySem.W.nsIn K mainGlobals "MOST_UNION_KINDS" = some (some v9)) (d9 : ∃ t, v9 = .int 4 t) : Cst K mg := by
  obtain ⟨_, rfl⟩ := d0
  obtain ⟨_, rfl⟩ := d1
  obtain ⟨_, rfl⟩ := d4
  obtain ⟨_, rfl⟩ := d5
  obtain ⟨_, rfl⟩ := d6
  obtain ⟨_, rfl⟩ := d7
  obtain ⟨_, rfl⟩ := d8
  obtain ⟨_, rfl⟩ := d9
  exact ⟨⟨_, PySem.W.mg_of X G c0⟩, ⟨_, PySem.W.mg_of X G c1⟩, ⟨_, PySem.W.mg_of X G c2, tup_mk l2⟩, ⟨_, PySem.W.mg_of X G c3, tup_mk l3⟩, ⟨_, PySem.W.mg_of X G c4⟩, ⟨_, PySem.W.mg_of X G c5⟩, ⟨_, PySem.W.mg_of X G c6⟩, ⟨_, PySem.W.mg_of X G c7⟩, ⟨_, PySem.W.mg_of X G c8⟩, ⟨_, PySem.W.mg_of X G c9⟩⟩
theorem root_mk {K : PySem.W.Frag} {h : Heap} {mg : Str → Option Value} (X : K.In h) (G : h.Ns mainGlobals mg) {ra : Addr} {p : Option Addr} {s : Array (Option Value)} {n : Nat} {t u : Nat} (a : PySem.W.nsIn K mainGlobals "ROOT_HEADING" = some (some (.ref ra))) (l : K.lookup ra = some ⟨.type "tuple", p, .seq #[.str "root" t, .str "" u] n, s⟩) : ∃ ra, mg "ROOT_HEADING" = some (.ref ra) ∧ ∀ H, SqT K H ra [.str "root", .str ""] := ⟨_, PySem.W.mg_of X G a, tup_mk l⟩
theorem cls_mk {K : PySem.W.Frag} {h : Heap} {mg : Str → Option Value} (X : K.In h) (G : h.Ns mainGlobals mg) {C CN CF CR : Addr} (s : PySem.W.nsIn K mainGlobals "Schema" = some (some (.ref C)))
    (s_NoBase : PySem.W.nsIn K mainGlobals "NoBase" = some (some (.ref CN)))
    (s_NoField : PySem.W.nsIn K mainGlobals "NoField" = some (some (.ref CF)))
    (s_SchemaReading : PySem.W.nsIn K mainGlobals "SchemaReading" = some (some (.ref CR)))
    (m : mg "NoBase" = some (.ref CN) → mg "NoField" = some (.ref CF) → mg "SchemaReading" = some (.ref CR) → ClsAll K mg C CN CF CR) : ∃ C CN CF CR, mg "Schema" = some (.ref C) ∧ mg "NoBase" = some (.ref CN) ∧ mg "NoField" = some (.ref CF) ∧ mg "SchemaReading" = some (.ref CR) ∧ ClsAll K mg C CN CF CR :=
  ⟨C, CN, CF, CR, PySem.W.mg_of X G s, PySem.W.mg_of X G s_NoBase, PySem.W.mg_of X G s_NoField, PySem.W.mg_of X G s_SchemaReading, m (PySem.W.mg_of X G s_NoBase) (PySem.W.mg_of X G s_NoField) (PySem.W.mg_of X G s_SchemaReading)⟩
theorem init_mk {K : PySem.W.Frag} {C fa : Addr} {oc kV dc pm cd ct : Value} {od an : Option Addr} {sl : Array (Option Value)} (i2 : PySem.W.findIn K (.ref C) "__init__" = some (some (.ref fa)))
    (l : K.lookup fa = some ⟨oc, od, .func (PySem.W.fnOf "__init__" "Schema.__init__" (defArgs s_Schema_init) (defBody s_Schema_init) (defScope s_Schema_init) .none kV dc pm an cd ct), sl⟩) (c : PySem.W.codeIn K cd "Schema.__init__" = true) (k : PySem.W.keepIn K (.ref fa) = true)
    (i1 : PySem.W.makesIn K C = true) (i3 : PySem.W.isFn K (.ref fa) = true) (i4 : PySem.W.keepIn K (.ref C) = true) : ∃ f fd, L2.Fun K "__init__" "Schema.__init__" s_Schema_init f fd ∧ L2.Binds K fd ["self", "kinds", "faces", "unions", "root"] [] ∧ L2.Mk K C f :=
  ⟨fa, _, fun_mk l c k, (fun_mk l c k).binds (fun _ _ _ _ _ _ us hl => match us, hl with | [_, _, _, _, _], _ => rfl), ⟨i1, i2, i3, i4⟩⟩
theorem cont_mk {K : PySem.W.Frag} {C fa : Addr} {oc kV dc pm cd ct : Value} {od an : Option Addr} {sl : Array (Option Value)} (i1 : PySem.W.findIn K (.ref C) "__contains__" = some (some (.ref fa)))
    (l : K.lookup fa = some ⟨oc, od, .func (PySem.W.fnOf "__contains__" "Schema.__contains__" (defArgs s_Schema_contains) (defBody s_Schema_contains) (defScope s_Schema_contains) .none kV dc pm an cd ct), sl⟩) (c : PySem.W.codeIn K cd "Schema.__contains__" = true) (k : PySem.W.keepIn K (.ref fa) = true)
    (i2 : PySem.W.isFn K (.ref fa) = true) : ∃ f fd, L2.Fun K "__contains__" "Schema.__contains__" s_Schema_contains f fd ∧ L2.Binds K fd ["self", "base"] [] ∧ InM K C f :=
  ⟨fa, _, fun_mk l c k, (fun_mk l c k).binds (fun _ _ _ _ _ _ us hl => match us, hl with | [_, _], _ => rfl), ⟨i1, i2⟩⟩
theorem rinit_mk {K : PySem.W.Frag} {C fa : Addr} {oc kV dc pm cd ct : Value} {od an : Option Addr} {sl : Array (Option Value)} (i2 : PySem.W.findIn K (.ref C) "__init__" = some (some (.ref fa)))
    (l : K.lookup fa = some ⟨oc, od, .func (PySem.W.fnOf "__init__" "SchemaReading.__init__" (defArgs s_SchemaReading_init) (defBody s_SchemaReading_init) (defScope s_SchemaReading_init) .none kV dc pm an cd ct), sl⟩) (c : PySem.W.codeIn K cd "SchemaReading.__init__" = true) (k : PySem.W.keepIn K (.ref fa) = true)
    (i1 : PySem.W.makesIn K C = true) (i3 : PySem.W.isFn K (.ref fa) = true) (i4 : PySem.W.keepIn K (.ref C) = true) : ∃ f fd, L2.Fun K "__init__" "SchemaReading.__init__" s_SchemaReading_init f fd ∧ L2.Binds K fd ["self"] [] ∧ L2.Mk K C f :=
  ⟨fa, _, fun_mk l c k, (fun_mk l c k).binds (fun _ _ _ _ _ _ us hl => match us, hl with | [_], _ => rfl), ⟨i1, i2, i3, i4⟩⟩
theorem eq_mk {K : PySem.W.Frag} {C fa : Addr} {oc kV dc pm cd ct : Value} {od an : Option Addr} {sl : Array (Option Value)} (i1 : PySem.W.findIn K (.ref C) "__eq__" = some (some (.ref fa)))
    (l : K.lookup fa = some ⟨oc, od, .func (PySem.W.fnOf "__eq__" "Schema.__eq__" (defArgs s_Schema_eq) (defBody s_Schema_eq) (defScope s_Schema_eq) .none kV dc pm an cd ct), sl⟩) (c : PySem.W.codeIn K cd "Schema.__eq__" = true) (k : PySem.W.keepIn K (.ref fa) = true)
    (i2 : PySem.W.isFn K (.ref fa) = true) (i3 : PySem.W.findIn K (.ref C) "__ne__" = some (some (.builtin "object.__ne__"))) : ∃ f fd, L2.Fun K "__eq__" "Schema.__eq__" s_Schema_eq f fd ∧ L2.Binds K fd ["self", "other"] [] ∧ EqM K C f :=
  ⟨fa, _, fun_mk l c k, (fun_mk l c k).binds (fun _ _ _ _ _ _ us hl => match us, hl with | [_, _], _ => rfl), ⟨i1, i2, i3⟩⟩
theorem NoBase_mk {K : PySem.W.Frag} {mg : Str → Option Value} {C fa : Addr} {oc kV dc pm cd ct : Value} {od an : Option Addr} {sl : Array (Option Value)} {nm q : Str} {N : Addr} {bs : List Value} {bm : List Value} {sn : List Str} {sub : List Value} {ab : Bool} {col : Option Bool} {dd : Option Addr} {m0 m1 m2 m3 m5 : Option Value}
    (i1 : PySem.W.findIn K (.ref C) "__init__" = some (some (.ref fa)))
    (l : K.lookup fa = some ⟨oc, od, .func (PySem.W.fnOf "__init__" "NoBase.__init__" (defArgs s_NoBase_init) (defBody s_NoBase_init) (defScope s_NoBase_init) .none kV dc pm an cd ct), sl⟩) (c : PySem.W.codeIn K cd "NoBase.__init__" = true) (k : PySem.W.keepIn K (.ref fa) = true)
    (o1 : K.lookup C = some (excClassObj nm q C N bs bm true sn sub ab col dd m0 m1 m2 m3 m5 "ValueError.__new__")) (o2 : PySem.HandSPX.refsVE bm = true) (o3 : PySem.W.findIn K (.ref C) "__setattr__" = some (some (.builtin "object.__setattr__")))
    (o4 : PySem.W.subIn K (.ref C) (.type "BaseException") = some true) (o5 : PySem.W.typeIn K (.ref C) = some (.type "type")) (o6 : PySem.W.keepIn K (.ref C) = true) (i2 : PySem.W.typeIn K (.ref fa) = some (.type "function"))
    (g : mg "NoBase" = some (.ref C)) (no0 : PySem.W.findIn K (.ref C) "base" = some none) : ∃ f fd, L2.Fun K "__init__" "NoBase.__init__" s_NoBase_init f fd ∧ L2.Binds K fd ["self", "base"] [] ∧ NoB K mg C f :=
  ⟨fa, _, fun_mk l c k, (fun_mk l c k).binds (fun _ _ _ _ _ _ us hl => match us, hl with | [_, _], _ => rfl), ⟨⟨⟨_, _, _, _, _, _, _, _, _, _, _, _, _, _, _, o1, o2⟩, o3, o4, o5, o6⟩, i1, i2, g, no0⟩⟩
theorem NoField_mk {K : PySem.W.Frag} {mg : Str → Option Value} {C fa : Addr} {oc kV dc pm cd ct : Value} {od an : Option Addr} {sl : Array (Option Value)} {nm q : Str} {N : Addr} {bs : List Value} {bm : List Value} {sn : List Str} {sub : List Value} {ab : Bool} {col : Option Bool} {dd : Option Addr} {m0 m1 m2 m3 m5 : Option Value}
    (i1 : PySem.W.findIn K (.ref C) "__init__" = some (some (.ref fa)))
    (l : K.lookup fa = some ⟨oc, od, .func (PySem.W.fnOf "__init__" "NoField.__init__" (defArgs s_NoField_init) (defBody s_NoField_init) (defScope s_NoField_init) .none kV dc pm an cd ct), sl⟩) (c : PySem.W.codeIn K cd "NoField.__init__" = true) (k : PySem.W.keepIn K (.ref fa) = true)
    (o1 : K.lookup C = some (excClassObj nm q C N bs bm true sn sub ab col dd m0 m1 m2 m3 m5 "ValueError.__new__")) (o2 : PySem.HandSPX.refsVE bm = true) (o3 : PySem.W.findIn K (.ref C) "__setattr__" = some (some (.builtin "object.__setattr__")))
    (o4 : PySem.W.subIn K (.ref C) (.type "BaseException") = some true) (o5 : PySem.W.typeIn K (.ref C) = some (.type "type")) (o6 : PySem.W.keepIn K (.ref C) = true) (i2 : PySem.W.typeIn K (.ref fa) = some (.type "function"))
    (g : mg "NoField" = some (.ref C)) (no0 : PySem.W.findIn K (.ref C) "base" = some none) (no1 : PySem.W.findIn K (.ref C) "field" = some none) : ∃ f fd, L2.Fun K "__init__" "NoField.__init__" s_NoField_init f fd ∧ L2.Binds K fd ["self", "base", "field"] [] ∧ NoF K mg C f :=
  ⟨fa, _, fun_mk l c k, (fun_mk l c k).binds (fun _ _ _ _ _ _ us hl => match us, hl with | [_, _, _], _ => rfl), ⟨⟨⟨_, _, _, _, _, _, _, _, _, _, _, _, _, _, _, o1, o2⟩, o3, o4, o5, o6⟩, i1, i2, g, no0, no1⟩⟩
theorem law_mk {K : PySem.W.Frag} {h : Heap} {mg : Str → Option Value} (X : K.In h) (G : h.Ns mainGlobals mg) {fa : Addr} {oc kV dc pm cd ct : Value} {od an : Option Addr} {sl : Array (Option Value)} (a : PySem.W.nsIn K mainGlobals "law" = some (some (.ref fa)))
    (l : K.lookup fa = some ⟨oc, od, .func (PySem.W.fnOf "law" "law" (defArgs s_law) (defBody s_law) (defScope s_law) .none kV dc pm an cd ct), sl⟩) (c : PySem.W.codeIn K cd "law" = true) (k : PySem.W.keepIn K (.ref fa) = true) :
    ∃ fa fd, Df K mg "law" s_law fa fd ["_law_script"] ∧ ∀ (s : Shared) (v : Value), BindsTo s fd ⟨[v], []⟩ [("_law_script", v)] :=
  ⟨fa, _, ⟨fun_mk l c k, (fun_mk l c k).binds (fun _ _ _ _ _ _ us hl => match us, hl with | [_], _ => rfl), PySem.W.mg_of X G a⟩, fun s v => .of_eq rfl⟩
theorem clsAll_mk {K : PySem.W.Frag} {mg : Str → Option Value} {C CN CF CR : Addr} (m0 : ∃ f fd, Mt K C "bases" "Schema.bases" s_Schema_bases f fd ["self"])
    (m1 : ∃ f fd, Mt K C "shapes_at" "Schema.shapes_at" s_Schema_shapes_at f fd ["self", "base"])
    (m2 : ∃ f fd, Mt K C "fields" "Schema.fields" s_Schema_fields f fd ["self", "base"])
    (m3 : ∃ f fd, Mt K C "shape_of" "Schema.shape_of" s_Schema_shape_of f fd ["self", "base", "field"])
    (m4 : ∃ f fd, Mt K C "kinds" "Schema.kinds" s_Schema_kinds f fd ["self"])
    (m5 : ∃ f fd, Mt K C "faces" "Schema.faces" s_Schema_faces f fd ["self"])
    (m6 : ∃ f fd, Mt K C "unions" "Schema.unions" s_Schema_unions f fd ["self"])
    (m7 : ∃ f fd, Mt K C "members" "Schema.members" s_Schema_members f fd ["self", "base"])
    (m8 : ∃ f fd, Mt K CR "has_room" "SchemaReading.has_room" s_SchemaReading_has_room f fd ["self", "words"])
    (m9 : ∃ f fd, Mt K CR "take_line" "SchemaReading.take_line" s_SchemaReading_take_line f fd ["self", "words"])
    (I : ∃ f fd, L2.Fun K "__init__" "Schema.__init__" s_Schema_init f fd ∧ L2.Binds K fd ["self", "kinds", "faces", "unions", "root"] [] ∧ L2.Mk K C f)
    (J : ∃ f fd, L2.Fun K "__contains__" "Schema.__contains__" s_Schema_contains f fd ∧ L2.Binds K fd ["self", "base"] [] ∧ InM K C f)
    (Qe : ∃ f fd, L2.Fun K "__eq__" "Schema.__eq__" s_Schema_eq f fd ∧ L2.Binds K fd ["self", "other"] [] ∧ EqM K C f)
    (RI : ∃ f fd, L2.Fun K "__init__" "SchemaReading.__init__" s_SchemaReading_init f fd ∧ L2.Binds K fd ["self"] [] ∧ L2.Mk K CR f)
    (BNoBase : mg "NoBase" = some (.ref CN) → ∃ f fd, L2.Fun K "__init__" "NoBase.__init__" s_NoBase_init f fd ∧ L2.Binds K fd ["self", "base"] [] ∧ NoB K mg CN f)
    (BNoField : mg "NoField" = some (.ref CF) → ∃ f fd, L2.Fun K "__init__" "NoField.__init__" s_NoField_init f fd ∧ L2.Binds K fd ["self", "base", "field"] [] ∧ NoF K mg CF f)
    (l1 : PySem.W.plainGet K C Str.empty = true)
    (l2 : PySem.W.hasDictIn K C = true)
    (l3 : PySem.W.plainOver K C = true)
    (l4 : PySem.W.findIn K (.ref C) "__setattr__" = some (some (.builtin "object.__setattr__")))
    (l5 : PySem.W.findIn K (.ref C) "kind_table" = some none)
    (l6 : PySem.W.findIn K (.ref C) "face_table" = some none)
    (l7 : PySem.W.findIn K (.ref C) "union_table" = some none)
    (l8 : PySem.W.findIn K (.ref C) "root" = some none)
    (x_NoBase_1 : PySem.W.findIn K (.ref CN) "__getattribute__" = some (some (.builtin "BaseException.__getattribute__")))
    (x_NoBase_2 : PySem.W.findIn K (.ref CN) "__getattr__" = some none)
    (x_NoBase_3 : PySem.W.subIn K (.ref CN) (.type "BaseException") = some true)
    (x_NoBase_4 : PySem.W.hasDictIn K CN = true)
    (x_NoField_1 : PySem.W.findIn K (.ref CF) "__getattribute__" = some (some (.builtin "BaseException.__getattribute__")))
    (x_NoField_2 : PySem.W.findIn K (.ref CF) "__getattr__" = some none)
    (x_NoField_3 : PySem.W.subIn K (.ref CF) (.type "BaseException") = some true)
    (x_NoField_4 : PySem.W.hasDictIn K CF = true)
    (f_NoBase_base : PySem.W.findIn K (.ref CN) "base" = some none)
    (f_NoField_base : PySem.W.findIn K (.ref CF) "base" = some none)
    (f_NoField_field : PySem.W.findIn K (.ref CF) "field" = some none)
    (q1 : PySem.W.findIn K (.ref C) "__class__" = some (some (.builtin "object.__class__")))
    (q2 : PySem.W.specialIn K (.builtin "object.__class__") "__get__" = some (some (.builtin "getset_descriptor.__get__")))
    (q3 : PySem.W.takesIn K (.builtin "object.__class__") = some true)
    (q4 : PySem.W.mroIn K C (.type "object") = some true)
    (q5 : PySem.W.kitOne K (.ref C) (.ref C) = some true)
    (r1 : PySem.W.plainGet K CR Str.empty = true)
    (r2 : PySem.W.hasDictIn K CR = true)
    (r3 : PySem.W.plainOver K CR = true)
    (r4 : PySem.W.findIn K (.ref CR) "__setattr__" = some (some (.builtin "object.__setattr__")))
    (r5 : PySem.W.findIn K (.ref CR) "headings" = some none)
    (r6 : PySem.W.findIn K (.ref CR) "shapes" = some none)
    (r7 : PySem.W.findIn K (.ref CR) "last_heading" = some none) : mg "NoBase" = some (.ref CN) → mg "NoField" = some (.ref CF) → mg "SchemaReading" = some (.ref CR) → ClsAll K mg C CN CF CR :=
  fun gNoBase gNoField gSchemaReading => ⟨m0, m1, m2, m3, m4, m5, m6, m7, m8, m9, I, J, Qe, RI, BNoBase gNoBase, BNoField gNoField, ⟨⟨l1, l2, l3, l4⟩, l5, l6, l7, l8⟩, ⟨q1, q2, q3, q4, q5⟩, ⟨x_NoBase_1, x_NoBase_2, x_NoBase_3, x_NoBase_4⟩, ⟨x_NoField_1, x_NoField_2, x_NoField_3, x_NoField_4⟩, f_NoBase_base, f_NoField_base, f_NoField_field, ⟨⟨r1, r2, r3, r4⟩, r5, r6, r7⟩⟩
theorem front {P : Program} {w : World} {K : PySem.W.Frag} {h : Heap} {mg : Str → Option Value} {fa : Addr} (X : K.In h) (G : h.Ns mainGlobals mg) (hmg : mg "law" = some (.ref fa))
    (D_is_name : ∃ f fd, Df K mg "is_name" s_is_name f fd ["word"])
    (D_is_key : ∃ f fd, Df K mg "is_key" s_is_key f fd ["name", "table"])
    (D_is_table : ∃ f fd, Df K mg "is_table" s_is_table f fd ["table", "least", "most", "taken"])
    (D_is_choice : ∃ f fd, Df K mg "is_choice" s_is_choice f fd ["names", "table"])
    (D_is_fields : ∃ f fd, Df K mg "is_fields" s_is_fields f fd ["fields", "most", "bases"])
    (D_is_kind : ∃ f fd, Df K mg "is_kind" s_is_kind f fd ["worth", "faces", "bases"])
    (D_has_fields : ∃ f fd, Df K mg "has_fields" s_has_fields f fd ["holder", "fields"])
    (D_is_union : ∃ f fd, Df K mg "is_union" s_is_union f fd ["worth", "kinds"])
    (D_is_face : ∃ f fd, Df K mg "is_face" s_is_face f fd ["name", "fields", "kinds", "bases"])
    (D_check_names : ∃ f fd, Df K mg "check_names" s_check_names f fd ["kinds", "faces", "unions"])
    (D_check_schema : ∃ f fd, Df K mg "check_schema" s_check_schema f fd ["kinds", "faces", "unions", "root"])
    (D_Lbox : ∃ f fd, Df K mg "_law_box" s_Lbox f fd ["_law_script"])
    (D_Ldraw : ∃ f fd, Df K mg "_law_draw" s_Ldraw f fd ["_law_box_here", "_law_many"])
    (D_Lwords : ∃ f fd, Df K mg "_law_words" s_Lwords f fd ["_law_box_here", "_law_many"])
    (D_Lshape : ∃ f fd, Df K mg "_law_shape" s_Lshape f fd ["_law_box_here", "_law_bases_here", "_law_most"])
    (D_Lkind : ∃ f fd, Df K mg "_law_kind" s_Lkind f fd ["_law_box_here", "_law_faces", "_law_names", "_law_common", "_law_bases_here", "_law_most"])
    (D_Lschema : ∃ f fd, Df K mg "_law_schema" s_Lschema f fd ["_law_box_here", "_law_most", "_law_kinds"])
    (D_Lmembers : ∃ f fd, Df K mg "_law_members" s_Lmembers f fd ["_law_schema_here", "_law_base"])
    (D_Lbases : ∃ f fd, Df K mg "_law_bases" s_Lbases f fd ["_law_schema_here"])
    (D_Lmade : ∃ f fd, Df K mg "_law_made" s_Lmade f fd ["_law_schema_here"])
    (D_Lsame : ∃ f fd, Df K mg "_law_same" s_Lsame f fd ["_law_one", "_law_other"])
    (D_Ltable : ∃ f fd, Df K mg "_law_table" s_Ltable f fd ["_law_schema_here", "_law_base"])
    (D_Lshows : ∃ f fd, Df K mg "_law_shows" s_Lshows f fd ["_law_built", "_law_schema_here"])
    (D_Lin_order : ∃ f fd, Df K mg "_law_in_order" s_Lin_order f fd ["_law_row", "_law_turned"])
    (D_Lshape_words : ∃ f fd, Df K mg "_law_shape_words" s_Lshape_words f fd ["_law_shape_here"])
    (D_Lfield_lines : ∃ f fd, Df K mg "_law_field_lines" s_Lfield_lines f fd ["_law_table_here", "_law_turned"])
    (D_Lschema_blocks : ∃ f fd, Df K mg "_law_schema_blocks" s_Lschema_blocks f fd ["_law_schema_here", "_law_turned"])
    (D_Llines : ∃ f fd, Df K mg "_law_lines" s_Llines f fd ["_law_blocks"])
    (D_Lmixed : ∃ f fd, Df K mg "_law_mixed" s_Lmixed f fd ["_law_box_here", "_law_row"])
    (D_lines_of : ∃ f fd, Df K mg "lines_of" s_lines_of f fd ["text"])
    (D_schema_text : ∃ f fd, Df K mg "schema_text" s_schema_text f fd ["schema"])
    (D_field_lines : ∃ f fd, Df K mg "field_lines" s_field_lines f fd ["schema", "base"])
    (D_shape_words : ∃ f fd, Df K mg "shape_words" s_shape_words f fd ["shape"])
    (D_read_schema : ∃ f fd, Df K mg "read_schema" s_read_schema f fd ["text"])
    (D_is_schema_line : ∃ f fd, Df K mg "is_schema_line" s_is_schema_line f fd ["words"])
    (D_heading_of : ∃ f fd, Df K mg "heading_of" s_heading_of f fd ["words"])
    (D_shape_from : ∃ f fd, Df K mg "shape_from" s_shape_from f fd ["words"])
    (D_schema_of : ∃ f fd, Df K mg "schema_of" s_schema_of f fd ["headings", "shapes"])
    (D_is_shape : ∃ f fd, DfS K mg f fd)
    (RH : ∃ ra, mg "ROOT_HEADING" = some (.ref ra) ∧ ∀ H, SqT K H ra [.str "root", .str ""])
    (T : Nms mg) (Cs : Cst K mg)
    (aL : ∃ fa fd, Df K mg "law" s_law fa fd ["_law_script"] ∧ ∀ (s : Shared) (v : Value), BindsTo s fd ⟨[v], []⟩ [("_law_script", v)])
    (cls : ∃ C CN CF CR, mg "Schema" = some (.ref C) ∧ mg "NoBase" = some (.ref CN) ∧ mg "NoField" = some (.ref CF) ∧ mg "SchemaReading" = some (.ref CR) ∧ ClsAll K mg C CN CF CR) :
    ∃ fd : FuncData, (∀ (s : Shared) (v : Value), BindsTo s fd ⟨[v], []⟩ [("_law_script", v)]) ∧ ∀ base : Heap, K.In base → base.Ns mainGlobals mg → L2.FnOk P w K mg base L2.CX0 40 fa fd ["_law_script"] (spLaw K) := by
  obtain ⟨fl, fdl, DL, bl⟩ := aL
  have e := hmg.symm.trans DL.g
  cases e
  obtain ⟨C, CN, CF, CR, gS, gNoBase, gNoField, gSchemaReading, A⟩ := cls
  refine ⟨fdl, bl, fun base _ _ => ?_⟩
  exact (all_ok DL D_is_name D_is_key D_is_table D_is_choice D_is_fields D_is_kind D_has_fields D_is_union D_is_face D_check_names D_check_schema D_Lbox D_Ldraw D_Lwords D_Lshape D_Lkind D_Lschema D_Lmembers D_Lbases D_Lmade D_Lsame D_Ltable D_Lshows D_Lin_order D_Lshape_words D_Lfield_lines D_Lschema_blocks D_Llines D_Lmixed D_lines_of D_schema_text D_field_lines D_shape_words D_read_schema D_is_schema_line D_heading_of D_shape_from D_schema_of D_is_shape RH A.m0 A.m1 A.m2 A.m3 A.m4 A.m5 A.m6 A.m7 A.m8 A.m9 A.I A.J A.Qe A.RI A.B_NoBase A.B_NoField T Cs A.L gS A.ci A.X_NoBase A.X_NoField A.f_NoBase_base A.f_NoField_base A.f_NoField_field A.LR gSchemaReading).mono (by decide)
end NW
open PySem PySem.W PyProof.Rows
set_option maxRecDepth 100000 in
set_option maxHeartbeats 0 in
theorem PySem.Challenge.cw_nestedwishes_k96_whole_schema_texts_holds : PySem.Challenge.rw_nestedwishes_k96_whole_schema_texts.Holds := by
  w_on; o_law; k_head; (case hw => w_witness2)
  k_fill
  refine L2.walk_of (l := PySem.Challenge.rw_nestedwishes_k96_whole_schema_texts) (n := 63) (k := 40) (x := "_law_script") (CX := fun _ => L2.CX0) (sp := fun w => NW.spLaw _) rfl (by decide) rfl ⟨rfl, by decide, by decide⟩ (fun w h Y => PySem.W.kIn_of Y) ?F (fun _ _ a ns hl _ hS => ⟨a, ns, rfl, hS, hl, fun _ => rfl⟩) (fun _ _ _ _ _ h => h)
  case F =>
    intro w mg fa h KX G hmg
    refine' NW.front KX G hmg ?D_is_name ?D_is_key ?D_is_table ?D_is_choice ?D_is_fields ?D_is_kind ?D_has_fields ?D_is_union ?D_is_face ?D_check_names ?D_check_schema ?D_Lbox ?D_Ldraw ?D_Lwords ?D_Lshape ?D_Lkind ?D_Lschema ?D_Lmembers ?D_Lbases ?D_Lmade ?D_Lsame ?D_Ltable ?D_Lshows ?D_Lin_order ?D_Lshape_words ?D_Lfield_lines ?D_Lschema_blocks ?D_Llines ?D_Lmixed ?D_lines_of ?D_schema_text ?D_field_lines ?D_shape_words ?D_read_schema ?D_is_schema_line ?D_heading_of ?D_shape_from ?D_schema_of ?D_is_shape ?RH ?T ?Cs ?aL ?cls
    (case D_is_name =>
      refine' NW.df_mk KX G ?a ?l ?c ?k (fun _ _ _ _ _ _ us hl => match us, hl with | [_], _ => rfl)
      (case a => k_is); (case l => k_is); (case c => k_is); (case k => k_is))
    (case D_is_key =>
      refine' NW.df_mk KX G ?a ?l ?c ?k (fun _ _ _ _ _ _ us hl => match us, hl with | [_, _], _ => rfl)
      (case a => k_is); (case l => k_is); (case c => k_is); (case k => k_is))
    (case D_is_table =>
      refine' NW.df_mk KX G ?a ?l ?c ?k (fun _ _ _ _ _ _ us hl => match us, hl with | [_, _, _, _], _ => rfl)
      (case a => k_is); (case l => k_is); (case c => k_is); (case k => k_is))
    (case D_is_choice =>
      refine' NW.df_mk KX G ?a ?l ?c ?k (fun _ _ _ _ _ _ us hl => match us, hl with | [_, _], _ => rfl)
      (case a => k_is); (case l => k_is); (case c => k_is); (case k => k_is))
    (case D_is_fields =>
      refine' NW.df_mk KX G ?a ?l ?c ?k (fun _ _ _ _ _ _ us hl => match us, hl with | [_, _, _], _ => rfl)
      (case a => k_is); (case l => k_is); (case c => k_is); (case k => k_is))
    (case D_is_kind =>
      refine' NW.df_mk KX G ?a ?l ?c ?k (fun _ _ _ _ _ _ us hl => match us, hl with | [_, _, _], _ => rfl)
      (case a => k_is); (case l => k_is); (case c => k_is); (case k => k_is))
    (case D_has_fields =>
      refine' NW.df_mk KX G ?a ?l ?c ?k (fun _ _ _ _ _ _ us hl => match us, hl with | [_, _], _ => rfl)
      (case a => k_is); (case l => k_is); (case c => k_is); (case k => k_is))
    (case D_is_union =>
      refine' NW.df_mk KX G ?a ?l ?c ?k (fun _ _ _ _ _ _ us hl => match us, hl with | [_, _], _ => rfl)
      (case a => k_is); (case l => k_is); (case c => k_is); (case k => k_is))
    (case D_is_face =>
      refine' NW.df_mk KX G ?a ?l ?c ?k (fun _ _ _ _ _ _ us hl => match us, hl with | [_, _, _, _], _ => rfl)
      (case a => k_is); (case l => k_is); (case c => k_is); (case k => k_is))
    (case D_check_names =>
      refine' NW.df_mk KX G ?a ?l ?c ?k (fun _ _ _ _ _ _ us hl => match us, hl with | [_, _, _], _ => rfl)
      (case a => k_is); (case l => k_is); (case c => k_is); (case k => k_is))
    (case D_check_schema =>
      refine' NW.df_mk KX G ?a ?l ?c ?k (fun _ _ _ _ _ _ us hl => match us, hl with | [_, _, _, _], _ => rfl)
      (case a => k_is); (case l => k_is); (case c => k_is); (case k => k_is))
    (case D_Lbox =>
      refine' NW.df_mk KX G ?a ?l ?c ?k (fun _ _ _ _ _ _ us hl => match us, hl with | [_], _ => rfl)
      (case a => k_is); (case l => k_is); (case c => k_is); (case k => k_is))
    (case D_Ldraw =>
      refine' NW.df_mk KX G ?a ?l ?c ?k (fun _ _ _ _ _ _ us hl => match us, hl with | [_, _], _ => rfl)
      (case a => k_is); (case l => k_is); (case c => k_is); (case k => k_is))
    (case D_Lwords =>
      refine' NW.df_mk KX G ?a ?l ?c ?k (fun _ _ _ _ _ _ us hl => match us, hl with | [_, _], _ => rfl)
      (case a => k_is); (case l => k_is); (case c => k_is); (case k => k_is))
    (case D_Lshape =>
      refine' NW.df_mk KX G ?a ?l ?c ?k (fun _ _ _ _ _ _ us hl => match us, hl with | [_, _, _], _ => rfl)
      (case a => k_is); (case l => k_is); (case c => k_is); (case k => k_is))
    (case D_Lkind =>
      refine' NW.df_mk KX G ?a ?l ?c ?k (fun _ _ _ _ _ _ us hl => match us, hl with | [_, _, _, _, _, _], _ => rfl)
      (case a => k_is); (case l => k_is); (case c => k_is); (case k => k_is))
    (case D_Lschema =>
      refine' NW.df_mk KX G ?a ?l ?c ?k (fun _ _ _ _ _ _ us hl => match us, hl with | [_, _, _], _ => rfl)
      (case a => k_is); (case l => k_is); (case c => k_is); (case k => k_is))
    (case D_Lmembers =>
      refine' NW.df_mk KX G ?a ?l ?c ?k (fun _ _ _ _ _ _ us hl => match us, hl with | [_, _], _ => rfl)
      (case a => k_is); (case l => k_is); (case c => k_is); (case k => k_is))
    (case D_Lbases =>
      refine' NW.df_mk KX G ?a ?l ?c ?k (fun _ _ _ _ _ _ us hl => match us, hl with | [_], _ => rfl)
      (case a => k_is); (case l => k_is); (case c => k_is); (case k => k_is))
    (case D_Lmade =>
      refine' NW.df_mk KX G ?a ?l ?c ?k (fun _ _ _ _ _ _ us hl => match us, hl with | [_], _ => rfl)
      (case a => k_is); (case l => k_is); (case c => k_is); (case k => k_is))
    (case D_Lsame =>
      refine' NW.df_mk KX G ?a ?l ?c ?k (fun _ _ _ _ _ _ us hl => match us, hl with | [_, _], _ => rfl)
      (case a => k_is); (case l => k_is); (case c => k_is); (case k => k_is))
    (case D_Ltable =>
      refine' NW.df_mk KX G ?a ?l ?c ?k (fun _ _ _ _ _ _ us hl => match us, hl with | [_, _], _ => rfl)
      (case a => k_is); (case l => k_is); (case c => k_is); (case k => k_is))
    (case D_Lshows =>
      refine' NW.df_mk KX G ?a ?l ?c ?k (fun _ _ _ _ _ _ us hl => match us, hl with | [_, _], _ => rfl)
      (case a => k_is); (case l => k_is); (case c => k_is); (case k => k_is))
    (case D_Lin_order =>
      refine' NW.df_mk KX G ?a ?l ?c ?k (fun _ _ _ _ _ _ us hl => match us, hl with | [_, _], _ => rfl)
      (case a => k_is); (case l => k_is); (case c => k_is); (case k => k_is))
    (case D_Lshape_words =>
      refine' NW.df_mk KX G ?a ?l ?c ?k (fun _ _ _ _ _ _ us hl => match us, hl with | [_], _ => rfl)
      (case a => k_is); (case l => k_is); (case c => k_is); (case k => k_is))
    (case D_Lfield_lines =>
      refine' NW.df_mk KX G ?a ?l ?c ?k (fun _ _ _ _ _ _ us hl => match us, hl with | [_, _], _ => rfl)
      (case a => k_is); (case l => k_is); (case c => k_is); (case k => k_is))
    (case D_Lschema_blocks =>
      refine' NW.df_mk KX G ?a ?l ?c ?k (fun _ _ _ _ _ _ us hl => match us, hl with | [_, _], _ => rfl)
      (case a => k_is); (case l => k_is); (case c => k_is); (case k => k_is))
    (case D_Llines =>
      refine' NW.df_mk KX G ?a ?l ?c ?k (fun _ _ _ _ _ _ us hl => match us, hl with | [_], _ => rfl)
      (case a => k_is); (case l => k_is); (case c => k_is); (case k => k_is))
    (case D_Lmixed =>
      refine' NW.df_mk KX G ?a ?l ?c ?k (fun _ _ _ _ _ _ us hl => match us, hl with | [_, _], _ => rfl)
      (case a => k_is); (case l => k_is); (case c => k_is); (case k => k_is))
    (case D_lines_of =>
      refine' NW.df_mk KX G ?a ?l ?c ?k (fun _ _ _ _ _ _ us hl => match us, hl with | [_], _ => rfl)
      (case a => k_is); (case l => k_is); (case c => k_is); (case k => k_is))
    (case D_schema_text =>
      refine' NW.df_mk KX G ?a ?l ?c ?k (fun _ _ _ _ _ _ us hl => match us, hl with | [_], _ => rfl)
      (case a => k_is); (case l => k_is); (case c => k_is); (case k => k_is))
    (case D_field_lines =>
      refine' NW.df_mk KX G ?a ?l ?c ?k (fun _ _ _ _ _ _ us hl => match us, hl with | [_, _], _ => rfl)
      (case a => k_is); (case l => k_is); (case c => k_is); (case k => k_is))
    (case D_shape_words =>
      refine' NW.df_mk KX G ?a ?l ?c ?k (fun _ _ _ _ _ _ us hl => match us, hl with | [_], _ => rfl)
      (case a => k_is); (case l => k_is); (case c => k_is); (case k => k_is))
    (case D_read_schema =>
      refine' NW.df_mk KX G ?a ?l ?c ?k (fun _ _ _ _ _ _ us hl => match us, hl with | [_], _ => rfl)
      (case a => k_is); (case l => k_is); (case c => k_is); (case k => k_is))
    (case D_is_schema_line =>
      refine' NW.df_mk KX G ?a ?l ?c ?k (fun _ _ _ _ _ _ us hl => match us, hl with | [_], _ => rfl)
      (case a => k_is); (case l => k_is); (case c => k_is); (case k => k_is))
    (case D_heading_of =>
      refine' NW.df_mk KX G ?a ?l ?c ?k (fun _ _ _ _ _ _ us hl => match us, hl with | [_], _ => rfl)
      (case a => k_is); (case l => k_is); (case c => k_is); (case k => k_is))
    (case D_shape_from =>
      refine' NW.df_mk KX G ?a ?l ?c ?k (fun _ _ _ _ _ _ us hl => match us, hl with | [_], _ => rfl)
      (case a => k_is); (case l => k_is); (case c => k_is); (case k => k_is))
    (case D_schema_of =>
      refine' NW.df_mk KX G ?a ?l ?c ?k (fun _ _ _ _ _ _ us hl => match us, hl with | [_, _], _ => rfl)
      (case a => k_is); (case l => k_is); (case c => k_is); (case k => k_is))
    (case D_is_shape =>
      refine' NW.dfs_mk KX G ?a ?l ?c ?k ?t
      (case a => k_is); (case l => k_is); (case c => k_is); (case k => k_is); (case t => k_is))
    (case RH =>
      refine' NW.root_mk KX G ?a ?l
      (case a => k_is); (case l => k_is))
    (case T =>
      refine' ⟨PySem.W.mg_none_of KX G ?a0, PySem.W.mg_none_of KX G ?a1, PySem.W.mg_none_of KX G ?a2, PySem.W.mg_none_of KX G ?a3, PySem.W.mg_none_of KX G ?a4, PySem.W.mg_none_of KX G ?a5, PySem.W.mg_none_of KX G ?a6, PySem.W.mg_none_of KX G ?a7, PySem.W.mg_none_of KX G ?a8, PySem.W.mg_none_of KX G ?a9, PySem.W.mg_none_of KX G ?a10, PySem.W.mg_none_of KX G ?a11, PySem.W.mg_none_of KX G ?a12⟩
      (case a0 => k_is); (case a1 => k_is); (case a2 => k_is); (case a3 => k_is); (case a4 => k_is); (case a5 => k_is); (case a6 => k_is); (case a7 => k_is); (case a8 => k_is); (case a9 => k_is); (case a10 => k_is); (case a11 => k_is); (case a12 => k_is))
    (case Cs =>
      refine' NW.cst_mk KX G ?a0 ?b0 ?a1 ?b1 ?a2 ?l2 ?a3 ?l3 ?a4 ?b4 ?a5 ?b5 ?a6 ?b6 ?a7 ?b7 ?a8 ?b8 ?a9 ?b9
      (case a0 => k_is); (case a1 => k_is); (case a2 => k_is); (case l2 => k_is); (case a3 => k_is); (case l3 => k_is); (case a4 => k_is); (case a5 => k_is); (case a6 => k_is); (case a7 => k_is); (case a8 => k_is); (case a9 => k_is)
      (case b0 => exact ⟨_, by first | rfl | decide +kernel⟩); (case b1 => exact ⟨_, by first | rfl | decide +kernel⟩); (case b4 => exact ⟨_, by first | rfl | decide +kernel⟩); (case b5 => exact ⟨_, by first | rfl | decide +kernel⟩); (case b6 => exact ⟨_, by first | rfl | decide +kernel⟩); (case b7 => exact ⟨_, by first | rfl | decide +kernel⟩); (case b8 => exact ⟨_, by first | rfl | decide +kernel⟩); (case b9 => exact ⟨_, by first | rfl | decide +kernel⟩))
    (case aL =>
      refine' NW.law_mk KX G ?a ?l ?c ?k
      (case a => k_is); (case l => k_is); (case c => k_is); (case k => k_is))
    (case cls =>
      refine' NW.cls_mk KX G ?sSch ?sNoBase ?sNoField ?sSchemaReading ?mAll
      (case sSch => k_is); (case sNoBase => k_is); (case sNoField => k_is); (case sSchemaReading => k_is)
      refine' NW.clsAll_mk ?m0 ?m1 ?m2 ?m3 ?m4 ?m5 ?m6 ?m7 ?m8 ?m9 ?I ?J ?Qe ?RI ?BNoBase ?BNoField ?l1 ?l2 ?l3 ?l4 ?l5 ?l6 ?l7 ?l8 ?x_NoBase_1 ?x_NoBase_2 ?x_NoBase_3 ?x_NoBase_4 ?x_NoField_1 ?x_NoField_2 ?x_NoField_3 ?x_NoField_4 ?f_NoBase_base ?f_NoField_base ?f_NoField_field ?q1 ?q2 ?q3 ?q4 ?q5 ?r1 ?r2 ?r3 ?r4 ?r5 ?r6 ?r7
      (case m0 =>
        refine' NW.mt_mk ?a ?i ?l ?c ?k (fun _ _ _ _ _ _ us hl => match us, hl with | [_], _ => rfl)
        (case a => k_is); (case i => k_is); (case l => k_is); (case c => k_is); (case k => k_is))
      (case m1 =>
        refine' NW.mt_mk ?a ?i ?l ?c ?k (fun _ _ _ _ _ _ us hl => match us, hl with | [_, _], _ => rfl)
        (case a => k_is); (case i => k_is); (case l => k_is); (case c => k_is); (case k => k_is))
      (case m2 =>
        refine' NW.mt_mk ?a ?i ?l ?c ?k (fun _ _ _ _ _ _ us hl => match us, hl with | [_, _], _ => rfl)
        (case a => k_is); (case i => k_is); (case l => k_is); (case c => k_is); (case k => k_is))
      (case m3 =>
        refine' NW.mt_mk ?a ?i ?l ?c ?k (fun _ _ _ _ _ _ us hl => match us, hl with | [_, _, _], _ => rfl)
        (case a => k_is); (case i => k_is); (case l => k_is); (case c => k_is); (case k => k_is))
      (case m4 =>
        refine' NW.mt_mk ?a ?i ?l ?c ?k (fun _ _ _ _ _ _ us hl => match us, hl with | [_], _ => rfl)
        (case a => k_is); (case i => k_is); (case l => k_is); (case c => k_is); (case k => k_is))
      (case m5 =>
        refine' NW.mt_mk ?a ?i ?l ?c ?k (fun _ _ _ _ _ _ us hl => match us, hl with | [_], _ => rfl)
        (case a => k_is); (case i => k_is); (case l => k_is); (case c => k_is); (case k => k_is))
      (case m6 =>
        refine' NW.mt_mk ?a ?i ?l ?c ?k (fun _ _ _ _ _ _ us hl => match us, hl with | [_], _ => rfl)
        (case a => k_is); (case i => k_is); (case l => k_is); (case c => k_is); (case k => k_is))
      (case m7 =>
        refine' NW.mt_mk ?a ?i ?l ?c ?k (fun _ _ _ _ _ _ us hl => match us, hl with | [_, _], _ => rfl)
        (case a => k_is); (case i => k_is); (case l => k_is); (case c => k_is); (case k => k_is))
      (case m8 =>
        refine' NW.mt_mk ?a ?i ?l ?c ?k (fun _ _ _ _ _ _ us hl => match us, hl with | [_, _], _ => rfl)
        (case a => k_is); (case i => k_is); (case l => k_is); (case c => k_is); (case k => k_is))
      (case m9 =>
        refine' NW.mt_mk ?a ?i ?l ?c ?k (fun _ _ _ _ _ _ us hl => match us, hl with | [_, _], _ => rfl)
        (case a => k_is); (case i => k_is); (case l => k_is); (case c => k_is); (case k => k_is))
      (case I =>
        refine' NW.init_mk ?i2 ?l ?c ?k ?i1 ?i3 ?i4
        (case i2 => k_is); (case l => k_is); (case c => k_is); (case k => k_is); (case i1 => k_is); (case i3 => k_is); (case i4 => k_is))
      (case J =>
        refine' NW.cont_mk ?i1 ?l ?c ?k ?i2
        (case i1 => k_is); (case l => k_is); (case c => k_is); (case k => k_is); (case i2 => k_is))
      (case Qe =>
        refine' NW.eq_mk ?i1 ?l ?c ?k ?i2 ?i3
        (case i1 => k_is); (case l => k_is); (case c => k_is); (case k => k_is); (case i2 => k_is); (case i3 => k_is))
      (case RI =>
        refine' NW.rinit_mk ?i2 ?l ?c ?k ?i1 ?i3 ?i4
        (case i2 => k_is); (case l => k_is); (case c => k_is); (case k => k_is); (case i1 => k_is); (case i3 => k_is); (case i4 => k_is))
      (case BNoBase =>
        intro gNB
        refine' NW.NoBase_mk ?i1 ?l ?c ?k ?o1 ?o2 ?o3 ?o4 ?o5 ?o6 ?i2 gNB ?no0
        (case i1 => k_is); (case l => k_is); (case c => k_is); (case k => k_is); (case o1 => k_is); (case o2 => decide +kernel); (case o3 => k_is); (case o4 => k_is); (case o5 => k_is); (case o6 => k_is); (case i2 => k_is); (case no0 => k_is))
      (case BNoField =>
        intro gNB
        refine' NW.NoField_mk ?i1 ?l ?c ?k ?o1 ?o2 ?o3 ?o4 ?o5 ?o6 ?i2 gNB ?no0 ?no1
        (case i1 => k_is); (case l => k_is); (case c => k_is); (case k => k_is); (case o1 => k_is); (case o2 => decide +kernel); (case o3 => k_is); (case o4 => k_is); (case o5 => k_is); (case o6 => k_is); (case i2 => k_is); (case no0 => k_is); (case no1 => k_is))
      (case l1 => k_is); (case l2 => k_is); (case l3 => k_is); (case l4 => k_is); (case l5 => k_is); (case l6 => k_is); (case l7 => k_is); (case l8 => k_is); (case x_NoBase_1 => k_is); (case x_NoBase_2 => k_is); (case x_NoBase_3 => k_is); (case x_NoBase_4 => k_is); (case x_NoField_1 => k_is); (case x_NoField_2 => k_is); (case x_NoField_3 => k_is); (case x_NoField_4 => k_is); (case f_NoBase_base => k_is); (case f_NoField_base => k_is); (case f_NoField_field => k_is); (case r1 => k_is); (case r2 => k_is); (case r3 => k_is); (case r4 => k_is); (case r5 => k_is); (case r6 => k_is); (case r7 => k_is)
      skip
      (case q1 => first | k_is | rfl | decide +kernel); (case q2 => first | k_is | rfl | decide +kernel); (case q3 => first | k_is | rfl | decide +kernel); (case q4 => first | k_is | rfl | decide +kernel); (case q5 => first | k_is | rfl | decide +kernel))
