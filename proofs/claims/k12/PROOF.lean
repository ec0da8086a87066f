import PyProof.Rows.All
import Wide.All
import OpenK.AllK
import Wide.FinOn
import PySem.Challenge.RW_nestedwishes_k12_base_at
import HandS.DeepEq
import HandS.Defaults
import HandS.DictComp
import HandS.DictTup
import HandS.ExcField
import HandS.ExcInit
import HandS.ExcInitHot
import HandS.ExcIs
import HandS.Finally
import HandS.ForExc
import HandS.ForMost
import HandS.HotCalls
import HandS.IsInst
import HandS.More
import HandS.OwnEq
import HandS.Set
import HandS.SetFor
import HandS.SortKw
import HandS.Star
import HandS.Strs
import HandS.Style
import HandS.TupAny
import HandS.Walk
import KE.DataMinMax
import KE.KExcIs
set_option Elab.async false
set_option linter.all false
set_option maxRecDepth 100000
set_option maxHeartbeats 4000000
namespace NW
open PySem PySem.Spec PyProof.Rows L2
section
variable {X : Cx} {pins : List (Addr × Obj)} {σ : L2.St} {H : Hp} {s : Shared}
/-- a dict behind a star: its keys -/
theorem star_dk {a : Addr} {kvs : List (Key × V)} {E : Value → Shared → Prop} {Q : List Value → Shared → Prop} (hc : X.calm = true) (I : Inv X pins σ H s) (h : Rd H a (.dK kvs))
    (hQ : ∀ us s', Inv X pins σ H s' → Vals (kvs.map fun kv => kV kv.1) us → Q us s') : PySem.W.StarOf (model X.prog X.w) X.A E (.ref a) Q s := by
  obtain ⟨z, lo, vs, rel, dd⟩ := dk_rd I.hok h
  obtain ⟨ep, hat⟩ := dd.dictAt
  have ek : (kvs.map fun kv => kV kv.1) = vs.map fun p => kV p.1 := by
    have e := congrArg (List.map kV) rel.keys
    rw [List.map_map, List.map_map] at e
    exact e
  have hT : s.TypeIs (.ref a) "dict" := dd.typeIs
  have zz : wpAny (model X.prog X.w) X.A (collect (.ref a)) Q E s := by
    refine PySem.W.kdu_collect (A := X.A) (PySem.W.kdl_dict (knd := mixKind X.prog X.w) (kvs := vs) (ep := ep) lo) (I.ok.hd hc) hat (by rw [← rel.length]; exact z) fun h' tk acc hk hacc => ?_
    have hv : Vals (vs.map fun p => kV p.1) acc.toList := keys_at (by rw [Array.length_toList]; exact hacc.1) fun j v e => hacc.2 j v (by rw [← Array.getElem?_toList]; exact e)
    exact hQ _ _ (I.kept hk) (by rw [ek]; exact hv)
  unfold PySem.W.StarOf notIterableAtAll
  exact wpAny_bind (wpAny_specialOf hT PySem.F.slot_dict_iter.lookup (wpAny_pure ⟨rfl, zz⟩))
def tStarD (te : TE) (t : TA) : TA := fun σ H Q => te σ H fun x H1 => ∃ p kvs, x = V.ref p ∧ Rd H1 p (.dK kvs) ∧ t σ H1 fun ys H2 => Q ((kvs.map fun kv => kV kv.1) ++ ys) H2
/-- *d in a display, d a dict -/
theorem pa_starD {e : Expr} {p : Pos} {es : List Expr} {te : TE} {t : TA} (hc : X.calm = true) (he : PE X e te) (hr : PA X es t) (hs : starEach (.Starred e p :: es) X.env = (true, eval e X.env) :: starEach es X.env := by rfl) :
    PA X (.Starred e p :: es) (tStarD te t) := by
  refine ⟨fun pos pins s σ H Q I h => ?_⟩
  refine PySem.W.items_star (thn (he.run pins s σ H _ I h) fun v s1 ⟨y, H1, I1, ry, a, xs, ey, hx, q⟩ => ?_) hs
  subst ey
  obtain rfl : v = Value.ref a := ry
  refine star_dk hc I1 hx fun us s2 I2 rv => ?_
  exact thn (hr.run pos pins s2 σ H1 _ I2 q) fun ws s3 ⟨vs, H3, I3, r3, q3⟩ => ⟨_ ++ vs, H3, I3, rv.append r3, q3⟩
/-! in, not in by an own __contains__ -/
structure InM (K : PySem.W.Frag) (C f : Addr) : Prop where
  at_ : PySem.W.findIn K (.ref C) "__contains__" = some (some (.ref f))
  fn : PySem.W.isFn K (.ref f) = true
section
variable {CX : CXT} {k : Nat} {C f : Addr} {fd : FuncData} {ps : List Str} {sp : Sp} {E : XK} {ds : List Value} {dvs : List V}
theorem contains_own {a dx : Addr} {fs : List (Str × V)} {Q : Bool → Hp → Prop} {y : V} {v : Value} (m : InM X.K C f) (F : FnOk X.prog X.w X.K X.mg X.base CX k f fd ps sp) (hr : Room k X.A) (hb : Binds X.K fd ps ds) (hd : Vals dvs ds) (hx : Passes CX X E)
    (I : Inv X pins σ H s) (e : H a = some (.ins C dx fs)) (ry : RelV y v) (h : sp ([.ref a, y] ++ dvs) H (fun r H' => ∃ b, r = .bl b ∧ Q b H') E) :
    wpAny (model X.prog X.w) X.A (contains (.ref a) v) (fun b s' => ∃ H', Inv X pins σ H' s' ∧ Q b H') X.xe s := by
  obtain ⟨mA, O, r, _, _, _⟩ := ins_get I.hok e
  obtain ⟨od, J, hl⟩ := O.look
  have KX := I.kIn
  unfold contains
  refine wpAny_holding (wpAny_bind (wpAny_bind (J.type.here ((PySem.W.looks_findIn KX m.at_).here ?_))))
  rw [if_neg (by simp)]
  refine wpAny_bind (PySem.W.unlessNone_K KX J m.at_ m.fn ?_)
  refine thn (run_fn (us := [.ref a, v]) (vs := [.ref a, y]) F hr hb hd hx I (.cons rfl (.cons ry .nil)) h) fun u s' ⟨x, H', I', rx, b, ex, q⟩ => ?_
  subst ex
  cases rx
  exact wpAny_truthy_bool ⟨H', I', q⟩
theorem op_in_own (m : InM X.K C f) (F : FnOk X.prog X.w X.K X.mg X.base CX k f fd ps sp) (hr : Room k X.A) (hb : Binds X.K fd ps ds) (hd : Vals dvs ds) (hx : Passes CX X E) :
    OpR X (compareOp .In) (fun x y H Q => ∃ a dx fs, y = .ref a ∧ H a = some (.ins C dx fs) ∧ sp ([.ref a, x] ++ dvs) H (fun r H' => ∃ b, r = .bl b ∧ Q (.bl b) H') E) := by
  intro pins s σ H x y u v Q I rx ry h
  obtain ⟨a, dx, fs, rfl, ea, q⟩ := h
  cases ry
  exact wpAny_bind (thn (contains_own (Q := fun b H' => Q (.bl b) H') m F hr hb hd hx I ea rx q) fun b s' ⟨H', I', q'⟩ => wpAny_pure ⟨.bl b, H', I', rfl, q'⟩)
theorem op_notIn_own (m : InM X.K C f) (F : FnOk X.prog X.w X.K X.mg X.base CX k f fd ps sp) (hr : Room k X.A) (hb : Binds X.K fd ps ds) (hd : Vals dvs ds) (hx : Passes CX X E) :
    OpR X (compareOp .NotIn) (fun x y H Q => ∃ a dx fs, y = .ref a ∧ H a = some (.ins C dx fs) ∧ sp ([.ref a, x] ++ dvs) H (fun r H' => ∃ b, r = .bl b ∧ Q (.bl (!b)) H') E) := by
  intro pins s σ H x y u v Q I rx ry h
  obtain ⟨a, dx, fs, rfl, ea, q⟩ := h
  cases ry
  exact wpAny_bind (thn (contains_own (Q := fun b H' => Q (.bl (!b)) H') m F hr hb hd hx I ea rx q) fun b s' ⟨H', I', q'⟩ => wpAny_pure ⟨.bl (!b), H', I', rfl, q'⟩)
end
end
end NW
namespace NW
open PySem PySem.Spec PyProof.Rows L2
def topS (i : Nat) : Stmt := PySem.Challenge.pw_nestedwishes_k12_base_at.main.body.getD i (.Pass ⟨0, 0, 0, 0⟩)
/-- a def of the text: where it stands, how it binds, its name -/
structure Df (K : PySem.W.Frag) (mg : Str → Option Value) (x : Str) (st : Stmt) (f : Addr) (fd : FuncData) (ps : List Str) : Prop where
  F : Fun K x x st f fd
  b : Binds K fd ps []
  g : mg x = some (.ref f)
/-- built-in names that nobody has bound anew -/
structure Nms (mg : Str → Option Value) : Prop where
  n_len : mg "len" = none
  n_int : mg "int" = none
  n_str : mg "str" = none
  n_list : mg "list" = none
  n_tuple : mg "tuple" = none
  n_dict : mg "dict" = none
  n_set : mg "set" = none
  n_range : mg "range" = none
  n_sorted : mg "sorted" = none
  n_all : mg "all" = none
  n_isinstance : mg "isinstance" = none
  n_enumerate : mg "enumerate" = none
  n_bool : mg "bool" = none
/-! ### heaps that grow, where only the box may change -/
def Gr (b : Addr) (H H' : Hp) : Prop := ∀ a o, a ≠ b → H a = some o → H' a = some o
theorem Gr.refl {b : Addr} {H : Hp} : Gr b H H := fun _ _ _ e => e
theorem Gr.trans {b : Addr} {H H1 H2 : Hp} (x : Gr b H H1) (y : Gr b H1 H2) : Gr b H H2 := fun a o n e => y a o n (x a o n e)
theorem Gr.box {b : Addr} {H : Hp} {o : HO} : Gr b H (upd H b o) := fun a u n e => by rw [upd_ne n]; exact e
theorem Gr.new {b p : Addr} {H : Hp} {o : HO} (h : H p = none) : Gr b H (upd H p o) := fun a u _ e => by rw [upd_ne (ne_of_none e h)]; exact e
theorem Same.gr {b : Addr} {H H' : Hp} (h : L2.Same H H') : Gr b H H' := fun a o _ e => h a o e
/-- an object that is new behind H may change -/
theorem Gr.upd {b p : Addr} {H H1 : Hp} {o : HO} (x : Gr b H H1) (h : H p = none) : Gr b H (upd H1 p o) := fun a u n e => by rw [upd_ne (ne_of_none e h)]; exact x a u n e
theorem Gr.free {b p : Addr} {H H1 : Hp} (x : Gr b H H1) (n : p ≠ b) (h : H1 p = none) : H p = none := by
  cases q : H p with
  | none => rfl
  | some o => rw [x p o n q] at h; cases h
theorem Gr.tup {K : PySem.W.Frag} {b a : Addr} {H H' : Hp} {xs ys : List V} (x : Gr b H H') (hb : H b = some (.lst ys)) (h : SqT K H a xs) : SqT K H' a xs := by
  rcases h with (h | ⟨o, h⟩) | h
  · exact .inl (.inl (x _ _ (ne_of h hb (by intro z; cases z)) h))
  · exact .inl (.inr ⟨o, x _ _ (ne_of h hb (by intro z; cases z)) h⟩)
  · exact .inr h
theorem Gr.lst {K : PySem.W.Frag} {b a : Addr} {H H' : Hp} {xs : List V} (x : Gr b H H') (n : a ≠ b) (h : SqL K H a xs) : SqL K H' a xs := by
  rcases h with (h | ⟨o, h⟩) | h
  · exact .inl (.inl (x _ _ n h))
  · exact .inl (.inr ⟨o, x _ _ n h⟩)
  · exact .inr h
/-! ### the box -/
def bl (r : Addr) (i g z c : Int) : List V := [.ref r, .int i, .int g, .int z, .int c]
structure BoxW (H : Hp) (b r : Addr) (ns : List Int) (i g z c : Int) : Prop where
  at_ : H b = some (.lst (bl r i g z c))
  lst : H r = some (.lst (ns.map V.int))
  ne : r ≠ b
  len : ns.length ≤ 63
  i0 : 0 ≤ i
  z0 : 0 ≤ z
  z1 : z < 2147483648
def Box (H : Hp) (b r : Addr) : Prop := ∃ ns i g z c, BoxW H b r ns i g z c
theorem Box.lst {H : Hp} {b r : Addr} (h : Box H b r) : ∃ xs, H b = some (.lst xs) := by
  obtain ⟨ns, i, g, z, c, w⟩ := h
  exact ⟨_, w.at_⟩
theorem Box.rls {H : Hp} {b r : Addr} (h : Box H b r) : ∃ xs, H r = some (.lst xs) := by
  obtain ⟨ns, i, g, z, c, w⟩ := h
  exact ⟨_, w.lst⟩
theorem Box.gr {H H' : Hp} {b r : Addr} (h : Box H b r) (x : Gr b H H') (e : H' b = H b) : Box H' b r := by
  obtain ⟨ns, i, g, z, c, w⟩ := h
  exact ⟨ns, i, g, z, c, by rw [e]; exact w.at_, x _ _ w.ne w.lst, w.ne, w.len, w.i0, w.z0, w.z1⟩
theorem Box.new {H : Hp} {b r p : Addr} {o : HO} (h : Box H b r) (hp : H p = none) : Box (upd H p o) b r := by
  obtain ⟨xs, e⟩ := h.lst
  exact h.gr (Gr.new hp) (upd_ne (ne_of_none e hp))
theorem Box.upd {H : Hp} {b r p : Addr} {o : HO} (h : Box H b r) (n : p ≠ b) (hp : p ≠ r) : Box (upd H p o) b r := by
  obtain ⟨ns, i, g, z, c, w⟩ := h
  exact ⟨ns, i, g, z, c, by rw [upd_ne n.symm]; exact w.at_, by rw [upd_ne hp.symm]; exact w.lst, w.ne, w.len, w.i0, w.z0, w.z1⟩
theorem Box.neb {H : Hp} {b r p : Addr} (h : Box H b r) (hp : H p = none) : p ≠ b := by
  obtain ⟨xs, e⟩ := h.lst
  exact (ne_of_none e hp).symm
theorem Box.ner {H : Hp} {b r p : Addr} (h : Box H b r) (hp : H p = none) : p ≠ r := by
  obtain ⟨xs, e⟩ := h.rls
  exact (ne_of_none e hp).symm
theorem BoxW.set {H : Hp} {b r : Addr} {ns : List Int} {i g z c : Int} (w : BoxW H b r ns i g z c) {i' g' z' c' : Int} (hi : 0 ≤ i') (hz : 0 ≤ z') (hz1 : z' < 2147483648) : BoxW (L2.upd H b (.lst (bl r i' g' z' c'))) b r ns i' g' z' c' :=
  ⟨upd_same, by rw [upd_ne w.ne]; exact w.lst, w.ne, w.len, hi, hz, hz1⟩
theorem BoxW.sq {K : PySem.W.Frag} {H : Hp} {b r : Addr} {ns : List Int} {i g z c : Int} (w : BoxW H b r ns i g z c) : SqL K H b (bl r i g z c) := SqL.of w.at_
theorem at0 {r : Addr} {i g z c : Int} : atI (bl r i g z c) 0 = some (.ref r) := atI_nat (j := 0) rfl
theorem at1 {r : Addr} {i g z c : Int} : atI (bl r i g z c) 1 = some (.int i) := atI_nat (j := 1) rfl
theorem at2 {r : Addr} {i g z c : Int} : atI (bl r i g z c) 2 = some (.int g) := atI_nat (j := 2) rfl
theorem at3 {r : Addr} {i g z c : Int} : atI (bl r i g z c) 3 = some (.int z) := atI_nat (j := 3) rfl
theorem at4 {r : Addr} {i g z c : Int} : atI (bl r i g z c) 4 = some (.int c) := atI_nat (j := 4) rfl
end NW
namespace NW
open PySem PySem.Spec PyProof.Rows L2
/-! ### what follows the first statements, once for all ways -/
theorem cut1 {t1 u : TS} {D : Ends} {σ : L2.St} {H : Hp} (G : L2.St → Hp → Prop) (hr : ∀ σ' H', G σ' H' → u D σ' H') (h : (∀ σ' H', G σ' H' → u D σ' H') → tSeq t1 u D σ H) : tSeq t1 u D σ H := h hr
theorem cut2 {t1 t2 u : TS} {D : Ends} {σ : L2.St} {H : Hp} (G : L2.St → Hp → Prop) (hr : ∀ σ' H', G σ' H' → u D σ' H') (h : (∀ σ' H', G σ' H' → u D σ' H') → tSeq t1 (tSeq t2 u) D σ H) : tSeq t1 (tSeq t2 u) D σ H := h hr
theorem cut3 {t1 t2 t3 u : TS} {D : Ends} {σ : L2.St} {H : Hp} (G : L2.St → Hp → Prop) (hr : ∀ σ' H', G σ' H' → u D σ' H') (h : (∀ σ' H', G σ' H' → u D σ' H') → tSeq t1 (tSeq t2 (tSeq t3 u)) D σ H) : tSeq t1 (tSeq t2 (tSeq t3 u)) D σ H := h hr
end NW
namespace NW
theorem nz {n : Int} (h : (n == 0) = false) : n ≠ 0 := by
  intro e
  rw [e] at h
  cases h
end NW
namespace NW
open PySem PySem.Spec PyProof.Rows L2
/-- a comprehension without tests: its element -/
theorem lcT {σ : L2.St} {H : Hp} {f g : Hp → Prop} (h : f H) : tYes σ H (fun b H3 => if b = true then f H3 else g H3) := by
  show (if true = true then f H else g H)
  rw [if_pos rfl]
  exact h
end NW
namespace NW
open PySem PySem.Spec PyProof.Rows L2
theorem blT {p : Prop} [Decidable p] (h : p) : V.bl (decide p) = V.bl true := by rw [decide_eq_true h]
theorem blF {p : Prop} [Decidable p] (h : ¬ p) : V.bl (decide p) = V.bl false := by rw [decide_eq_false h]
theorem blNT {p : Prop} [Decidable p] (h : ¬ p) : V.bl (!decide p) = V.bl true := by rw [decide_eq_false h]; rfl
theorem blNF {p : Prop} [Decidable p] (h : p) : V.bl (!decide p) = V.bl false := by rw [decide_eq_true h]; rfl
end NW
namespace NW
open PySem PySem.Spec PyProof.Rows L2
open TL (tl joinL tl_join join_eq)
abbrev LET : Str := "abcdefghijklmnopqrstuvwxyz"
theorem let_cps : LET.cps.toList = (List.range 26).map (97 + ·) := by decide +kernel
theorem let_at {k : Nat} (h : k < 26) : LET.cps.toList[k]? = some (97 + k) := by
  rw [let_cps, List.getElem?_map, List.getElem?_range h]
  rfl
theorem let_len : LET.length ≤ sizeLine := by decide +kernel
/-- one to eight small letters -/
structure IsName (z : Str) : Prop where
  len1 : 1 ≤ z.length
  len8 : z.length ≤ 8
  low : ∀ c ∈ tl z, 97 ≤ c ∧ c ≤ 122
abbrev sgn (c : Nat) : Str := ⟨#[c]⟩
theorem tl_sgn (c : Nat) : tl (sgn c) = [c] := rfl
theorem len_tl (z : Str) : z.length = (tl z).length := by
  show z.cps.size = z.cps.toList.length
  rw [Array.length_toList]
theorem tl_cat (x y : Str) : tl (x ++ y) = tl x ++ tl y := by
  show (x.cps ++ y.cps).toList = _
  rw [Array.toList_append]
/-- a word whose last (or first) letter is the t-th one -/
def mark (f : Nat) (z : Str) : Option Nat := if f = 0 then (tl z).getLast? else (tl z).head?
structure GoodW (f t : Nat) (z : Str) : Prop where
  nm : IsName z
  nt : z ≠ "text"
  nn : z ≠ "number"
  mrk : mark f z = some (97 + t)
theorem sgn_good {f t : Nat} (h : t < 26) : GoodW f t (sgn (97 + t)) := by
  refine ⟨⟨?_, ?_, ?_⟩, ?_, ?_, ?_⟩
  · exact Nat.le_refl 1
  · show 1 ≤ 8; decide
  · intro c hc
    rw [tl_sgn] at hc
    have e := List.mem_singleton.mp hc
    omega
  · intro e
    have e2 := congrArg Str.length e
    have : (("text" : Str)).length = 4 := by decide +kernel
    rw [this] at e2
    exact absurd e2 (by show ¬ (1 = 4); decide)
  · intro e
    have e2 := congrArg Str.length e
    have : (("number" : Str)).length = 6 := by decide +kernel
    rw [this] at e2
    exact absurd e2 (by show ¬ (1 = 6); decide)
  · unfold mark
    split <;> rfl
theorem word_good {f t : Nat} {x : Str} {cs : List Nat} (h : t < 26) (hx : tl x = cs) (hl : cs.length ≤ 7) (hc : ∀ c ∈ cs, 97 ≤ c ∧ c ≤ 122)
    (nt : (if f = 0 then x ++ sgn (97 + t) else sgn (97 + t) ++ x) ≠ "text") (nn : (if f = 0 then x ++ sgn (97 + t) else sgn (97 + t) ++ x) ≠ "number") : GoodW f t (if f = 0 then x ++ sgn (97 + t) else sgn (97 + t) ++ x) := by
  have el : (if f = 0 then x ++ sgn (97 + t) else sgn (97 + t) ++ x).length = cs.length + 1 := by
    split <;> (rw [len_tl, tl_cat, List.length_append, tl_sgn, hx, List.length_singleton] <;> omega)
  refine ⟨⟨by omega, by omega, fun c m => ?_⟩, nt, nn, ?_⟩
  · have m2 : c ∈ cs ∨ c = 97 + t := by
      split at m
      · rw [tl_cat, hx, tl_sgn] at m
        rcases List.mem_append.mp m with m | m
        · exact .inl m
        · exact .inr (List.mem_singleton.mp m)
      · rw [tl_cat, hx, tl_sgn] at m
        rcases List.mem_append.mp m with m | m
        · exact .inr (List.mem_singleton.mp m)
        · exact .inl m
    rcases m2 with m2 | m2
    · exact hc c m2
    · omega
  · unfold mark
    by_cases e : f = 0
    · rw [if_pos e, if_pos e, tl_cat, tl_sgn, List.getLast?_append]
      rfl
    · rw [if_neg e, if_neg e, tl_cat, tl_sgn]
      rfl
/-- the words: as many as asked, each marked by its own letter -/
def WordsOk (f sh : Nat) (ws : List Str) : Prop := ∀ k (h : k < ws.length), GoodW f ((sh + k) % 26) ws[k]
theorem WordsOk.snoc {f sh : Nat} {ws : List Str} {z : Str} (h : WordsOk f sh ws) (g : GoodW f ((sh + ws.length) % 26) z) : WordsOk f sh (ws ++ [z]) := by
  intro k hk
  by_cases e : k < ws.length
  · rw [List.getElem_append_left e]
    exact h k e
  · have e2 : k = ws.length := by
      rw [List.length_append, List.length_singleton] at hk
      omega
    subst e2
    rw [List.getElem_append_right (Nat.le_refl _)]
    simp only [Nat.sub_self, List.getElem_cons_zero]
    exact g
theorem WordsOk.nodup {f sh : Nat} {ws : List Str} (h : WordsOk f sh ws) (hl : ws.length ≤ 26) : ws.Nodup := by
  refine List.pairwise_iff_getElem.mpr fun i j hi hj hij e1 => ?_
  have m1 := (h i hi).mrk
  have m2 := (h j hj).mrk
  rw [e1, m2] at m1
  have := Option.some.inj m1
  omega
theorem joinE : ∀ cs : List Nat, tl (Txt.join "" (cs.map fun c => sgn c)) = cs := by
  intro cs
  rw [join_eq, tl_join]
  have e0 : tl ("" : Str) = [] := by decide +kernel
  rw [e0]
  induction cs with
  | nil => rfl
  | cons c r ih =>
    cases r with
    | nil => rfl
    | cons d r =>
      show [c] ++ ([] ++ joinL [] (((d :: r).map fun c => sgn c).map tl)) = c :: d :: r
      rw [ih]
      rfl
theorem sgn_sum : ∀ cs : List Nat, ((cs.map fun c => sgn c).map Str.length).sum = cs.length := by
  intro cs
  induction cs with
  | nil => rfl
  | cons c r ih =>
    show 1 + ((r.map fun c => sgn c).map Str.length).sum = r.length + 1
    rw [ih]
    omega
end NW
namespace NW
open PySem PySem.Spec PyProof.Rows
/-! ### set(t) of a tuple of different texts -/
section
variable {pr : Program} {wl : World} {Ar : Around} {Post : Result → Shared → Prop} {it : Addr} {foot writ : List Addr} {Gn : Array GenState → Array GenState → Prop} {n : Nat} {Pv : Nat → Value → Prop} {Stt : Nat → Shared → Prop}
def inTake (xs : List Str) (i : Nat) : Str → Bool := fun z => decide (z ∈ xs.take i)
theorem inTake_succ {xs : List Str} {i : Nat} (h : i < xs.length) (z : Str) : (inTake xs i z || decide (z = xs.getD i Str.empty)) = inTake xs (i + 1) z := by
  have e : xs.getD i Str.empty = xs[i] := by rw [List.getD_eq_getElem?_getD, List.getElem?_eq_getElem h]; rfl
  unfold inTake
  rw [e, List.take_add_one, List.getElem?_eq_getElem h, Bool.eq_iff_iff]
  simp only [Bool.or_eq_true, decide_eq_true_eq, List.mem_append, Option.toList_some, List.mem_singleton]
theorem inTake_no {xs : List Str} {i : Nat} (nd : xs.Nodup) (h : i < xs.length) : inTake xs i (xs.getD i Str.empty) = false := by
  have e : xs.getD i Str.empty = xs[i] := by rw [List.getD_eq_getElem?_getD, List.getElem?_eq_getElem h]; rfl
  unfold inTake
  rw [e]
  refine decide_eq_false fun m => ?_
  obtain ⟨j, hj, ej⟩ := List.getElem_of_mem m
  rw [List.getElem_take] at ej
  rw [List.length_take] at hj
  have := (List.getElem_inj nd).mp ej
  omega
theorem loopTx (Wk : WalksS pr wl Ar.in1 it foot writ Gn n Pv Stt) (sa : Addr) (out : sa ∉ foot) (xs : List Str) (lenx : xs.length = n) (nd : xs.Nodup) (few : n ≤ 1000) (tx : ∀ i v, Pv i v → ∃ t, v = .str (xs.getD i Str.empty) t) :
    ∀ (k i : Nat) (s : Shared), i + k = n → Stt i s → s.heap.SetOf (PySem.strKind pr wl) sa (inTake xs i) i →
      (∀ s2, Moved (sa :: writ) Gn s s2 → s2.heap.SetOf (PySem.strKind pr wl) sa (inTake xs n) n → Post (.ok (.ret .none)) s2) → codeAny (model pr wl) Ar (.builtin "set.update.loop" ⟨[.ref sa, .ref it], []⟩) Post s := by
  have notW : sa ∉ writ := fun z => out (Wk.sub _ z)
  have more : ∀ b ∈ writ, b ∈ sa :: writ := fun b m => List.mem_cons_of_mem _ m
  have carry : ∀ {s s2 : Shared} {i : Nat}, Moved writ Gn s s2 → s.heap.SetOf (PySem.strKind pr wl) sa (inTake xs i) i → s2.heap.SetOf (PySem.strKind pr wl) sa (inTake xs i) i := fun {s s2 i} mv st => by
    obtain ⟨o, es, ep, tb, ho, r⟩ := st
    exact ⟨o, es, ep, tb, mv.heap sa _ notW ho, r⟩
  intro k
  induction k with
  | zero =>
    intro i s e st held fin
    obtain rfl : i = n := e
    refine codeAny_builtin F.entry_set_update_loop ?_
    rw [Around.under_plainId F.plain_set_update_loop]
    show wpAny _ Ar.in1 (do let y ← pyNext (.ref it); _) _ _ s
    exact wpAny_bind (Wk.done s _ _ st fun s2 mv => wpAny_pure (fin s2 (mv.mono more) (carry mv held)))
  | succ k ih =>
    intro i s e st held fin
    have lt : i < n := by omega
    refine codeAny_builtin F.entry_set_update_loop ?_
    rw [Around.under_plainId F.plain_set_update_loop]
    show wpAny _ Ar.in1 (do let y ← pyNext (.ref it); _) _ _ s
    refine wpAny_bind (Wk.item i s _ _ lt st fun v s2 pv st2 mv => ?_)
    obtain ⟨t, rfl⟩ := tx i v pv
    have held2 := carry mv held
    generalize hz : xs.getD i Str.empty = z at *
    show wpAny _ Ar.in1 (do let _ ← holding [Value.str z t] (setAdd sa (.str z t)); _) _ _ s2
    refine wpAny_bind (wpAny_holding ?_)
    unfold setAdd
    refine wpAny_holding (wpAny_bind ((PySem.strKind pr wl).pyHash (k := z) (strKind_is _ _ _ _) ?_))
    refine wpAny_setAddHashed_of (knd := PySem.strKind pr wl) (s := { s2 with toks := s2.toks + 1 }) (strKind_is _ _ _ _) rfl held2 (by unfold scanBound; omega) fun h3 sb st3 => ?_
    have no : inTake xs i z = false := by rw [← hz]; exact inTake_no nd (by omega)
    have st4 : h3.SetOf (PySem.strKind pr wl) sa (inTake xs (i + 1)) (i + 1) := SetOf_congr st3 (fun y => by rw [← hz]; exact inTake_succ (by omega) y) (by rw [no]; rfl)
    refine wpAny_pure ⟨plainId_quiet F.plain_set_update_loop _, ih (i + 1) _ (by omega) (Wk.frame _ s2 _ _ st2 (Nat.le_succ _) fun b hb o eo => ?_) st4 fun s5 mv5 st5 => ?_⟩
    · rw [sb.2 b fun z => out (z ▸ hb)]
      exact eo
    · refine fin s5 (Moved.trans Wk.gtrans ((mv.mono more).then_heap (Nat.le_succ _) fun b o hb eo => ?_) mv5) st5
      rw [sb.2 b fun z => hb (z ▸ List.mem_cons_self)]
      exact eo
set_option maxHeartbeats 8000000 in
theorem setTx {tu : Addr} {its : Array Value} {xs : List Str} {Qv : Value → Shared → Prop} {Ex : Value → Shared → Prop} {s : Shared} (calm : Ar.handled = none) (tup : s.heap.IsTuple tu its) (txt : StrsAre its.toList xs) (nd : xs.Nodup) (few : xs.length ≤ 1000)
    (go : ∀ (h2 : Heap) (tk : Nat), h2.SetOf (PySem.strKind pr wl) s.heap.objs.size (inTake xs its.size) its.size → (∀ b o, b < s.heap.objs.size → s.heap.get? b = some o → h2.get? b = some o) → Qv (.ref s.heap.objs.size) { s with heap := h2, toks := tk }) :
    wpAny (model pr wl) Ar (call (.type "set") [.ref tu]) Qv Ex s := by
  obtain ⟨c0, tl0, hmro⟩ := PySem.F.called_set.mro
  have hmade := PySem.F.called_set.made
  have hsub := PySem.F.called_set.sub
  refine wpAny_call (codeAny_of_tree ?_)
  show wpAny _ _ (callAny (.type "set") _) _ _ _
  refine wpAny_pure ⟨Code.quiet_builtin _ (by decide +kernel), codeAny_builtin PySem.F.entry_type_call ?_⟩
  rw [Around.under_plain (weight_type_call_type "set" [.ref tu] []) rfl]
  have q1 := PySem.F.called_set.notType
  have q2 := PySem.F.called_set.canCreate
  have q3 := PySem.F.typeCall_set_1 (.ref tu)
  repeat (any_goals (first | assumption | wp_step))
  generalize hnew : s.heap.objs.size = new at *
  refine codeAny_mono (code_set_new_1 (.ref tu) (E := Ex) (Q₁ := fun u s1 => ∃ led : Bool, u = .ref new ∧ s1 = { s with heap := s.heap.push { cls := .type "set", dict := none, data := .set #[] 0 (.fresh 0 0 led) } }) fun led => ⟨led, by rw [hnew], rfl⟩) fun res s1 hres => ?_
  match res, hres with
  | .error _, hres => exact hres
  | .ok (.ret u), hres =>
    obtain ⟨led, rfl, rfl⟩ := hres
    have at1 : (s.heap.push ({ cls := .type "set", dict := none, data := .set #[] 0 (.fresh 0 0 led) } : Obj)).get? new = some ({ cls := .type "set", dict := none, data := .set #[] 0 (.fresh 0 0 led) } : Obj) := by
      rw [← hnew]
      exact Heap.get?_push_size _ rfl
    have isS : Shared.TypeIs { s with heap := s.heap.push ({ cls := .type "set", dict := none, data := .set #[] 0 (.fresh 0 0 led) } : Obj) } (.ref new) "set" := ⟨_, at1, rfl⟩
    have q4 := PySem.F.called_set.init.lookup
    have q5 := PySem.F.called_set.init.bind (.ref new)
    repeat (any_goals (first | assumption | wp_step))
    refine codeAny_mono (codeAny_call_builtin (R := wants (fun r s2 => r = .none ∧ ∃ h2 tk, s2 = { s with heap := h2, toks := tk } ∧ h2.SetOf (PySem.strKind pr wl) new (inTake xs its.size) its.size ∧ (∀ b o, b < new → s.heap.get? b = some o → h2.get? b = some o)) Ex)
      PySem.F.called_set.init.plain PySem.F.entry_set_init (check_set_init_1 isS ?_)) fun r2 s2 hr2 => ?_
    · obtain ⟨⟨oc, od, odat, osl⟩, at0, hcl, nl, hdl⟩ := tup
      simp only at hcl hdl
      subst hcl hdl
      have at2 : (s.heap.push ({ cls := .type "set", dict := none, data := .set #[] 0 (.fresh 0 0 led) } : Obj)).get? tu = some { cls := .type "tuple", dict := od, data := .seq its nl, slots := osl } := Heap.get?_push_of_some _ at0
      have q6 := PySem.F.sub_tuple_set
      have q7 := PySem.F.sub_tuple_frozenset
      have q8 : (Value.type "tuple" == Value.type "dict") = false := by decide
      have tup2 : (s.heap.push ({ cls := .type "set", dict := none, data := .set #[] 0 (.fresh 0 0 led) } : Obj)).IsTuple tu its := ⟨_, at2, rfl, nl, rfl⟩
      unfold Builtin.«set.__init__» noKeywords Builtin.Frozenset.updateFrom
      generalize hPI : pyIter = PI
      wp_walk
      subst hPI
      refine wpAny_pyIter_tuple tup2 ?_
      refine wpAny_bind (wpAny_runValue ?_)
      have below : tu < new := by rw [← hnew]; exact Heap.lt_size at0
      have hsize : (s.heap.push ({ cls := .type "set", dict := none, data := .set #[] 0 (.fresh 0 0 led) } : Obj)).objs.size = new + 1 := by rw [Heap.size_push, hnew]
      have apart : tu ≠ (s.heap.push ({ cls := .type "set", dict := none, data := .set #[] 0 (.fresh 0 0 led) } : Obj)).objs.size := by rw [hsize]; exact Nat.ne_of_lt (Nat.lt_succ_of_lt below)
      have notIn : new ∉ [(s.heap.push ({ cls := .type "set", dict := none, data := .set #[] 0 (.fresh 0 0 led) } : Obj)).objs.size, tu] := by
        rw [hsize]
        simp only [List.mem_cons, List.not_mem_nil, or_false, not_or]
        exact ⟨Nat.ne_of_lt (Nat.lt_succ_self _), Nat.ne_of_gt below⟩
      have lenx : xs.length = its.size := by rw [← StrsAre.len_eq txt, Array.length_toList]
      have vals : ∀ (i : Nat) (v : Value), its[i]? = some v → ∃ t, v = .str (xs.getD i Str.empty) t := fun i v e => SS.strs_at txt i v (by rw [Array.getElem?_toList]; exact e)
      have calm3 : Ar.in1.in1.in1.handled = none := by simp [calm]
      refine loopTx ((Walks.tuple calm3 _ tu apart its).toS) new notIn xs lenx nd (by omega) vals its.size 0 _ (by omega) ⟨⟨_, Heap.get?_push_size _ rfl, rfl, rfl⟩, tup2.push _⟩ ?start ?fin
      case start =>
        have at3 : ((s.heap.push ({ cls := .type "set", dict := none, data := .set #[] 0 (.fresh 0 0 led) } : Obj)).push { cls := .type "tuple_iterator", data := .fields #[.ref tu, .int 0 0] }).get? new = some ({ cls := .type "set", dict := none, data := .set #[] 0 (.fresh 0 0 led) } : Obj) := Heap.get?_push_of_some _ at1
        exact SetOf_congr ((setObjOf_fresh (knd := PySem.strKind pr wl) led).setOf at3 (by unfold scanBound; omega)) (fun _ => rfl) rfl
      case fin =>
        intro s5 mv st5
        obtain ⟨h5, g5, d5, tk5, os5⟩ := s5
        obtain rfl : g5 = s.gens := mv.gens
        obtain rfl : d5 = s.drawn := mv.drawn
        obtain rfl : os5 = s.os := mv.os
        show wpAny _ _ _ _ _ _
        refine wpAny_pure ?_
        show wpAny _ _ (ret Value.none) _ _ _
        refine wpAny_pure ⟨rfl, h5, tk5, rfl, st5, fun b o hb eo => mv.heap b o ?_ (Heap.get?_push_of_some _ (Heap.get?_push_of_some _ eo))⟩
        rw [hsize]
        simp only [List.mem_cons, List.not_mem_nil, or_false, not_or]
        exact ⟨Nat.ne_of_lt hb, Nat.ne_of_lt (Nat.lt_succ_of_lt hb)⟩
    · match r2, hr2 with
      | .error _, hr2 => exact hr2
      | .ok (.ret u), hr2 =>
        obtain ⟨rfl, h2, tk, rfl, st2, kept⟩ := hr2
        repeat (any_goals (first | assumption | wp_step))
        exact go _ _ st2 kept
      | .ok .next, hr2 => exact hr2.elim
      | .ok .brk, hr2 => exact hr2.elim
      | .ok .cont, hr2 => exact hr2.elim
  | .ok .next, hres => exact hres.elim
  | .ok .brk, hres => exact hres.elim
  | .ok .cont, hres => exact hres.elim
end
end NW
namespace NW
open PySem PySem.Spec PyProof.Rows L2
open TL (tl)
section
variable {X : Cx} {pins : List (Addr × Obj)} {σ : L2.St} {H : Hp} {s : Shared}
/-- in, of a list, a tuple or a dict -/
theorem op_in_any (hu : X.A.units + 1 < cLine) : OpR X (compareOp .In) (fun x y H Q => rIn X.K false x y H Q ∨ ∃ a o, y = .ref a ∧ DGet H a x o ∧ Q (.bl o.isSome) H) := by
  intro pins s σ H x y v u Q I rx ry h
  rcases h with h | ⟨a, o, rfl, g, q⟩
  · exact op_in_seq pins s σ H x y v u Q I rx ry h
  · obtain rfl : u = Value.ref a := ry
    exact d_in hu I g rx fun _ I3 => ⟨.bl o.isSome, H, I3, rfl, q⟩
/-- len of a dict, also of one that is walked -/
theorem call_lenR : CallR X (.builtin "len") (fun xs H Q => ∃ a kvs, xs = [V.ref a] ∧ Rd H a (.dK kvs) ∧ Q (.int kvs.length) H) := by
  intro pins s σ H xs us Q I r h
  obtain ⟨a, kvs, rfl, ha, q⟩ := h
  rw [Vals.ref1 r]
  exact d_len I ha fun t _ I2 => ⟨.int kvs.length, H, I2, ⟨t, rfl⟩, q⟩
/-- what len(set(xs)) asks: different texts in a tuple -/
def tLenSetN (K : PySem.W.Frag) (ta : TE) : TE := fun σ H Q => ta σ H fun x H1 => ∃ l, ∃ xs : List Str, x = .ref l ∧ SqT K H1 l (xs.map V.str) ∧ xs.Nodup ∧ xs.length ≤ 1000 ∧ Q (.int xs.length) H1
theorem pe_lenSetN {a : Expr} {ta : TE} {p p2 q pos : Pos} (hc : X.calm = true) (hg : Gl X "len") (hm : X.mg "len" = none) (hg2 : Gl X "set") (hm2 : X.mg "set" = none) (ha : PE X a ta)
    (na : starEach [a] X.env = (false, eval a X.env) :: starEach [] X.env := by rfl) : PE X (.Call (.Name "len" p) [.Call (.Name "set" p2) [a] [] q] [] pos) (tLenSetN X.K ta) := by
  refine ⟨fun pins s σ H Q I h => ?_⟩
  refine Call_ (ld_blt I hg hm boot_len ?_)
  refine PyProof.Rows.callWith_builtin1 (args_cons (Call_ (ld_blt I hg2 hm2 boot_set (PyProof.Rows.callWith_type1 (args_cons (thn (ha.run pins s σ H _ I h) fun v s1 ⟨x, H1, I1, r1, tu, xs, ex, ht, nd, few, q1⟩ => args_nil ?_) na) na rfl))) rfl) rfl rfl
  subst ex
  cases r1
  obtain ⟨its, rv, pl, _⟩ := I1.tuple ht
  refine setTx (I1.ok.hd hc) pl (by simpa using strsAre_of rv) nd few fun h2 tk st kept => ?_
  refine args_nil ?_
  have en : its.toArray.size = xs.length := by rw [List.size_toArray, ← rv.length, List.length_map]
  rw [en] at st
  obtain ⟨o, es, ep, t, ho, hex, hd, _, _, _, hf, hn⟩ := st
  have I2 : Inv X pins σ H1 { s1 with heap := h2, toks := tk } := I1.kept fun b o e => kept b o (Heap.lt_size e) e
  exact call_len_set ho hex hd hf (by rw [hn]; omega) ⟨.int xs.length, H1, I2.tok _, ⟨_, by rw [hn]⟩, q1⟩
end
/-! ### shapes in the heap -/
inductive Shp where
  | base (z : Str)
  | sure (s : Shp)
  | list (s : Shp)
  deriving DecidableEq
def ShAt (H : Hp) : V → Shp → Prop
  | v, .base z => v = .str z
  | v, .sure s => ∃ a u, v = .ref a ∧ H a = some (.tup [.str "sure", u]) ∧ ShAt H u s
  | v, .list s => ∃ a u, v = .ref a ∧ H a = some (.tup [.str "list", u]) ∧ ShAt H u s
theorem ShAt.gr {b : Addr} {H H' : Hp} {xs : List V} (hb : H b = some (.lst xs) ∨ ∃ kvs, H b = some (.dK kvs)) (x : Gr b H H') : ∀ {s : Shp} {v : V}, ShAt H v s → ShAt H' v s := by
  have ne : ∀ {a : Addr} {ys : List V}, H a = some (.tup ys) → a ≠ b := by
    intro a ys e
    rcases hb with h | ⟨_, h⟩
    · exact ne_of e h (by intro z; cases z)
    · exact ne_of e h (by intro z; cases z)
  intro s
  induction s with
  | base z => intro v h; exact h
  | sure s ih =>
    rintro v ⟨a, u, e, ha, hu⟩
    exact ⟨a, u, e, x _ _ (ne ha) ha, ih hu⟩
  | list s ih =>
    rintro v ⟨a, u, e, ha, hu⟩
    exact ⟨a, u, e, x _ _ (ne ha) ha, ih hu⟩
theorem ShAt.same {H H' : Hp} (x : Same H H') : ∀ {s : Shp} {v : V}, ShAt H v s → ShAt H' v s := by
  intro s
  induction s with
  | base z => intro v h; exact h
  | sure s ih =>
    rintro v ⟨a, u, e, ha, hu⟩
    exact ⟨a, u, e, x _ _ ha, ih hu⟩
  | list s ih =>
    rintro v ⟨a, u, e, ha, hu⟩
    exact ⟨a, u, e, x _ _ ha, ih hu⟩
/-- with room for n more wrappers, o: the wrapper around is "sure" -/
def okS (bases : List Str) : Nat → Bool → Shp → Prop
  | _, _, .base z => z ∈ bases
  | 0, _, .sure _ => False
  | 0, _, .list _ => False
  | n + 1, o, .sure s => o = false ∧ okS bases n true s
  | n + 1, _, .list s => okS bases n false s
/-! ### fields, kinds, faces, unions in the heap -/
abbrev Fld := Str × V × Shp
def fkv (fs : List Fld) : List (Key × V) := fs.map fun f => ((Sum.inr f.1 : Key), f.2.1)
structure FldAt (H : Hp) (d : Addr) (fs : List Fld) : Prop where
  at_ : H d = some (.dK (fkv fs))
  sh : ∀ f ∈ fs, ShAt H f.2.1 f.2.2
structure KRow where
  nm : Str
  t : Addr
  fa : Addr
  da : Addr
  fcs : List Str
  fds : List Fld
structure KRow.At (H : Hp) (k : KRow) : Prop where
  t : H k.t = some (.tup [.ref k.fa, .ref k.da])
  f : H k.fa = some (.tup (k.fcs.map V.str))
  d : FldAt H k.da k.fds
structure FRow where
  nm : Str
  da : Addr
  fds : List Fld
structure URow where
  nm : Str
  t : Addr
  ms : List Str
def kkv (ks : List KRow) : List (Key × V) := ks.map fun k => ((Sum.inr k.nm : Key), V.ref k.t)
def fkvs (fs : List FRow) : List (Key × V) := fs.map fun k => ((Sum.inr k.nm : Key), V.ref k.da)
def ukv (us : List URow) : List (Key × V) := us.map fun k => ((Sum.inr k.nm : Key), V.ref k.t)
structure SchAt (H : Hp) (kt ft ut : Addr) (ks : List KRow) (fs : List FRow) (us : List URow) : Prop where
  kd : H kt = some (.dK (kkv ks))
  fd : H ft = some (.dK (fkvs fs))
  ud : H ut = some (.dK (ukv us))
  ka : ∀ k ∈ ks, k.At H
  fa : ∀ f ∈ fs, FldAt H f.da f.fds
  ua : ∀ u ∈ us, H u.t = some (.tup (u.ms.map V.str))
/-- an object that is neither a tuple nor a dict -/
def Oth (H : Hp) (b : Addr) : Prop := ∃ o, H b = some o ∧ (∀ xs, o ≠ .tup xs) ∧ ∀ kvs, o ≠ .dK kvs
theorem Oth.lst {H : Hp} {b : Addr} {xs : List V} (h : H b = some (.lst xs)) : Oth H b := ⟨_, h, (by intro _ z; cases z), (by intro _ z; cases z)⟩
theorem Oth.ins {H : Hp} {b C dx : Addr} {fs : List (Str × V)} (h : H b = some (.ins C dx fs)) : Oth H b := ⟨_, h, (by intro _ z; cases z), (by intro _ z; cases z)⟩
theorem Oth.net {H : Hp} {a b : Addr} {xs : List V} (h : Oth H b) (e : H a = some (.tup xs)) : a ≠ b := by
  obtain ⟨o, ho, h1, _⟩ := h
  exact ne_of e ho fun z => h1 _ z.symm
theorem Oth.ned {H : Hp} {a b : Addr} {kvs : List (Key × V)} (h : Oth H b) (e : H a = some (.dK kvs)) : a ≠ b := by
  obtain ⟨o, ho, _, h1⟩ := h
  exact ne_of e ho fun z => h1 _ z.symm
theorem ShAt.grO {b : Addr} {H H' : Hp} (hb : Oth H b) (x : Gr b H H') : ∀ {s : Shp} {v : V}, ShAt H v s → ShAt H' v s := by
  intro s
  induction s with
  | base z => intro v h; exact h
  | sure s ih =>
    rintro v ⟨a, u, e, ha, hu⟩
    exact ⟨a, u, e, x _ _ (hb.net ha) ha, ih hu⟩
  | list s ih =>
    rintro v ⟨a, u, e, ha, hu⟩
    exact ⟨a, u, e, x _ _ (hb.net ha) ha, ih hu⟩
theorem FldAt.gr {b : Addr} {H H' : Hp} {d : Addr} {fs : List Fld} (hb : Oth H b) (x : Gr b H H') (h : FldAt H d fs) : FldAt H' d fs :=
  ⟨x _ _ (hb.ned h.at_) h.at_, fun f m => (h.sh f m).grO hb x⟩
theorem KRow.At.gr {b : Addr} {H H' : Hp} {k : KRow} (hb : Oth H b) (x : Gr b H H') (h : k.At H) : k.At H' :=
  ⟨x _ _ (hb.net h.t) h.t, x _ _ (hb.net h.f) h.f, h.d.gr hb x⟩
theorem SchAt.gr {b : Addr} {H H' : Hp} {kt ft ut : Addr} {ks : List KRow} {fs : List FRow} {us : List URow} (hb : Oth H b) (x : Gr b H H') (h : SchAt H kt ft ut ks fs us) : SchAt H' kt ft ut ks fs us :=
  ⟨x _ _ (hb.ned h.kd) h.kd, x _ _ (hb.ned h.fd) h.fd, x _ _ (hb.ned h.ud) h.ud, fun k m => (h.ka k m).gr hb x, fun f m => (h.fa f m).gr hb x,
    fun u m => x _ _ (hb.net (h.ua u m)) (h.ua u m)⟩
theorem FldAt.same {H H' : Hp} {d : Addr} {fs : List Fld} (x : Same H H') (h : FldAt H d fs) : FldAt H' d fs := ⟨x _ _ h.at_, fun f m => (h.sh f m).same x⟩
theorem KRow.At.same {H H' : Hp} {k : KRow} (x : Same H H') (h : k.At H) : k.At H' := ⟨x _ _ h.t, x _ _ h.f, h.d.same x⟩
theorem SchAt.same {H H' : Hp} {kt ft ut : Addr} {ks : List KRow} {fs : List FRow} {us : List URow} (x : Same H H') (h : SchAt H kt ft ut ks fs us) : SchAt H' kt ft ut ks fs us :=
  ⟨x _ _ h.kd, x _ _ h.fd, x _ _ h.ud, fun k m => (h.ka k m).same x, fun f m => (h.fa f m).same x, fun u m => x _ _ (h.ua u m)⟩
/-! ### a schema as it should be -/
structure FdsOk (bases : List Str) (fds : List Fld) (most : Nat) : Prop where
  n0 : 1 ≤ fds.length
  n1 : fds.length ≤ most
  nd : (fds.map (·.1)).Nodup
  nm : ∀ f ∈ fds, IsName f.1
  sh : ∀ f ∈ fds, okS bases 4 false f.2.2
  tx : ∀ z ∈ bases, PyData.strOk z = true
def bsOf (ks : List KRow) (fs : List FRow) (us : List URow) : List Str := [("number" : Str), ("text" : Str)] ++ (ks.map (·.nm) ++ (fs.map (·.nm) ++ us.map (·.nm)))
structure SchOk (ks : List KRow) (fs : List FRow) (us : List URow) (root : Str) : Prop where
  k0 : 1 ≤ ks.length
  k1 : ks.length ≤ 6
  f1 : fs.length ≤ 3
  u1 : us.length ≤ 3
  nd : (bsOf ks fs us).Nodup
  nk : ∀ k ∈ ks, IsName k.nm
  nf : ∀ k ∈ fs, IsName k.nm
  nu : ∀ k ∈ us, IsName k.nm
  kf : ∀ k ∈ ks, k.fcs.Nodup ∧ (∀ z ∈ k.fcs, z ∈ fs.map (·.nm)) ∧ k.fcs.length ≤ 3
  kd : ∀ k ∈ ks, FdsOk (bsOf ks fs us) k.fds 5
  fd : ∀ f ∈ fs, FdsOk (bsOf ks fs us) f.fds 4
  fk : ∀ f ∈ fs, ∃ k ∈ ks, f.nm ∈ k.fcs
  ff : ∀ f ∈ fs, ∀ k ∈ ks, f.nm ∈ k.fcs → ∀ x ∈ f.fds, ∃ y ∈ k.fds, y.1 = x.1 ∧ y.2.2 = x.2.2
  ud : ∀ u ∈ us, u.ms.Nodup ∧ 1 ≤ u.ms.length ∧ u.ms.length ≤ 4 ∧ ∀ z ∈ u.ms, z ∈ ks.map (·.nm)
  rt : root ∈ ks.map (·.nm)
/-! ### a dict by its texts -/
theorem valV_nd {κ : Type} [DecidableEq κ] : ∀ {kvs : List (κ × V)} {k : κ} {v : V}, (kvs.map (·.1)).Nodup → (k, v) ∈ kvs → valV kvs k = some v
  | [], _, _, _, m => by cases m
  | p :: r, k, v, nd, m => by
    have nd' : p.1 ∉ r.map (·.1) ∧ (r.map (·.1)).Nodup := List.nodup_cons.mp nd
    by_cases e : p.1 = k
    · have ev : (k, v) = p := by
        rcases List.mem_cons.mp m with m | m
        · exact m
        · exact absurd (e ▸ List.mem_map.mpr ⟨_, m, rfl⟩) nd'.1
      unfold valV
      rw [List.find?_cons_of_pos (by simpa using e), ← ev]
      rfl
    · rcases List.mem_cons.mp m with m | m
      · exact absurd (by rw [← m]) e
      · unfold valV
        rw [List.find?_cons_of_neg (by simpa using e)]
        exact valV_nd nd'.2 m
theorem valV_map {α : Type} {l : List α} {f : α → Str} {g : α → V} (nd : (l.map f).Nodup) {a : α} (m : a ∈ l) : valV (l.map fun a => ((Sum.inr (f a) : Key), g a)) (Sum.inr (f a)) = some (g a) := by
  refine valV_nd ?_ (List.mem_map.mpr ⟨a, m, rfl⟩)
  rw [List.map_map]
  have : (l.map f).map (Sum.inr : Str → Key) = l.map (Prod.fst ∘ fun a => ((Sum.inr (f a) : Key), g a)) := by rw [List.map_map]; rfl
  rw [← this]
  exact (List.pairwise_map.mpr (nd.imp fun h e => h (Sum.inr.inj e)))
theorem valV_out {α : Type} {l : List α} {f : α → Str} {g : α → V} {z : Str} (m : z ∉ l.map f) : valV (l.map fun a => ((Sum.inr (f a) : Key), g a)) (Sum.inr z) = none := by
  unfold valV
  rw [List.find?_eq_none.mpr]
  · rfl
  · intro x hx
    obtain ⟨a, ha, rfl⟩ := List.mem_map.mp hx
    simp only [decide_eq_true_eq]
    intro e
    exact m (List.mem_map.mpr ⟨a, ha, Sum.inr.inj e⟩)
theorem keys_map {α : Type} (l : List α) (f : α → Str) (g : α → V) : (l.map fun a => ((Sum.inr (f a) : Key), g a)).map (·.1) = (l.map f).map Sum.inr := by
  rw [List.map_map, List.map_map]
  rfl
theorem inV_strs {z : Str} {l : List Str} : inV (.str z) (l.map V.str) = decide (z ∈ l) := by
  unfold inV
  rw [List.any_map, Bool.eq_iff_iff, List.any_eq_true, decide_eq_true_eq]
  constructor
  · rintro ⟨x, hx, e⟩
    have : x = z := by simpa [eqV] using e
    exact this ▸ hx
  · intro h
    exact ⟨z, h, by simp [eqV]⟩
theorem flat_map (l : List Str) : (l.map V.str).all flatV = true := by
  rw [List.all_map]
  exact List.all_eq_true.mpr fun _ _ => rfl
end NW
namespace NW
open PySem PySem.Spec PyProof.Rows L2
/-! ### the same rules within a comprehension's block -/
section
variable {X : Cx} (K : PySem.W.Frag)
theorem op_notIn_seqK (h : X.K = K := by rfl) : OpR X (compareOp .NotIn) (rIn K true) := h ▸ op_notIn_seq
theorem op_in_seqK (h : X.K = K := by rfl) : OpR X (compareOp .In) (rIn K false) := h ▸ op_in_seq
theorem ix_listK (h : X.K = K := by rfl) : IxR X (rIxL K) := h ▸ ix_list
theorem ix_tupK (h : X.K = K := by rfl) : IxR X (rIxT K) := h ▸ ix_tup
theorem op_eqDK (hu : X.A.units + 64 < cLine) (h : X.K = K := by rfl) : OpR X (compareOp .Eq) (rEqD K) := h ▸ op_eqD hu
end
end NW
namespace NW
open PySem PySem.Spec PyProof.Rows L2
open TL (tl)
theorem IsName.tx {z : Str} (h : IsName z) : PyData.strOk z = true := by
  unfold PyData.strOk
  rw [Array.all_eq_true']
  intro c hc
  have := h.low c (Array.mem_toList_iff.mpr hc)
  exact decide_eq_true (by omega)
end NW
namespace NW
open PySem PySem.Spec PyProof.Rows L2
open TL (tl)
/-- the constants of the modules -/
structure Cst (K : PySem.W.Frag) (mg : Str → Option Value) : Prop where
  LETTERS : ∃ t, mg "LETTERS" = some (.str LET t)
  LONGEST : ∃ t, mg "LONGEST" = some (.int 8 t)
  LEAVES : ∃ a, mg "LEAVES" = some (.ref a) ∧ ∀ H, SqT K H a [.str "number", .str "text"]
  WRAPPERS : ∃ a, mg "WRAPPERS" = some (.ref a) ∧ ∀ H, SqT K H a [.str "list", .str "sure"]
  MOST_KINDS : ∃ t, mg "MOST_KINDS" = some (.int 6 t)
  MOST_FACES : ∃ t, mg "MOST_FACES" = some (.int 3 t)
  MOST_UNIONS : ∃ t, mg "MOST_UNIONS" = some (.int 3 t)
  MOST_KIND_FIELDS : ∃ t, mg "MOST_KIND_FIELDS" = some (.int 5 t)
  MOST_FACE_FIELDS : ∃ t, mg "MOST_FACE_FIELDS" = some (.int 4 t)
  MOST_UNION_KINDS : ∃ t, mg "MOST_UNION_KINDS" = some (.int 4 t)
abbrev s_is_name : Stmt := topS 13
abbrev N_is_name : List Str := ["word", "letter"]
theorem sc_is_name : FnScope N_is_name ["word"] (defScope s_is_name) := ⟨rfl, rfl, rfl, by decide +kernel, rfl, by decide +kernel, by decide +kernel⟩
abbrev s_is_key : Stmt := topS 14
abbrev N_is_key : List Str := ["name", "table"]
theorem sc_is_key : FnScope N_is_key ["name", "table"] (defScope s_is_key) := ⟨rfl, rfl, rfl, by decide +kernel, rfl, by decide +kernel, by decide +kernel⟩
section
variable {P : Program} {w : World} {K : PySem.W.Frag} {mg : Str → Option Value} {base : Heap}
def spIsName : Sp := fun vs H Q _ => ∃ z : Str, vs = [.str z] ∧ IsName z ∧ ∀ H', Same H H' → Q (.bl true) H'
theorem same_new {H : Hp} {p : Addr} {o : HO} (h : H p = none) : Same H (upd H p o) := fun b x e => by
  rw [upd_ne (ne_of_none e h)]
  exact e
theorem same_upd {H H1 : Hp} {p : Addr} {o : HO} (x : Same H H1) (h : H p = none) : Same H (upd H1 p o) := fun b u e => by
  rw [upd_ne (ne_of_none e h)]
  exact x b u e
theorem all_true (n : Nat) : (List.replicate n true).all id = true := by
  rw [List.all_replicate]
  cases n <;> simp
theorem rep_succ {n : Nat} : (List.replicate n true).map V.bl ++ [V.bl true] = (List.replicate (n + 1) true).map V.bl := by
  rw [List.replicate_succ', List.map_append]
  rfl
theorem ok_is_name {f : Addr} {fd : FuncData} (D : Df K mg "is_name" s_is_name f fd ["word"]) (T : Nms mg) (C : Cst K mg) : FnOk P w K mg base CX0 1 f fd ["word"] spIsName := by
  obtain ⟨t1, g_LETTERS⟩ := C.LETTERS
  obtain ⟨t2, g_LONGEST⟩ := C.LONGEST
  refine D.F.ok sc_is_name (fun vs H Q E h => ?_) (fun cdv A outer s H vs Q E hr h => ?_)
  · obtain ⟨z, rfl, _⟩ := h
    rfl
  · obtain ⟨z, rfl, hz, q⟩ := h
    refine ⟨_, (pss_one (ps_ret (pe_and (pe_callB call_isi (by rfl) T.n_isinstance (by decide +kernel) (pa_cons (pv 0) (pa_cons (pe_bltn (v := .ty "str") (by rfl) T.n_str (by decide +kernel) rfl) pa_nil))) (pe_and (pe_chain op_le op_le pe_int (pe_callB call_len_str (by rfl) T.n_len PySem.boot_len (pa_cons (pv 0) pa_nil)) (pe_glob (v := .int 8) (by rfl) g_LONGEST ⟨_, rfl⟩)) (pe_one (pe_callB (cr_all rfl) (by rfl) T.n_all (by decide +kernel) (pa_cons (pe_lc (own := [("letter", 1)]) (g := (gName 1)) (tt := tYes) rfl sc_is_name.nd (pi_str (pv 0)) (blkOk_by (own := [("letter", 1)]) (N := N_is_name) (sc := defScope s_is_name) (by decide +kernel)) (fun _ _ _ _ _ => (pg_name (i := 1) sc_is_name.nd rfl (.inl rfl))) (fun _ _ _ _ _ => pts_nil) (fun _ _ _ _ _ => (pe_cmpR op_in_sign (pv 1) (pe_glob (v := .str LET) (by rfl) g_LETTERS ⟨_, rfl⟩) (by rfl)))) pa_nil))))))), ?_⟩
    refine ⟨.str z, rfl, _, _, _, _, true, rfl, .ty "str", .base (.str z), kit_ty (by decide +kernel), true, rfl, iteT ?_⟩
    have hs : z.length ≤ sizeLine := Nat.le_trans hz.len8 (by decide)
    have l1 : decide ((1 : Int) ≤ (z.length : Int)) = true := decide_eq_true (by have := hz.len1; omega)
    have l2 : decide ((z.length : Int) ≤ 8) = true := decide_eq_true (by have := hz.len8; omega)
    refine ⟨.str z, rfl, z, rfl, hs, _, _, rfl, rfl, true, blT (by have := hz.len1; omega), iteT ⟨_, _, rfl, rfl, true, blT (by have := hz.len8; omega), iteT ⟨.str z, rfl, z, rfl, fun Da nD => ?_⟩⟩⟩
    refine lc_it walk_str (fun i H' => H' = upd H Da (.lst ((List.replicate i true).map V.bl))) rfl (fun _ _ _ _ => trivial) ?_ ?_
    · rintro i x H3 H4 hi rfl ⟨rfl, c, hc, rfl⟩
      have hcm : c ∈ tl z := List.mem_of_getElem? (by rw [Array.getElem?_toList]; exact hc)
      have hl := hz.low c hcm
      have hm : c ∈ LET.cps.toList := by
        have e := let_at (k := c - 97) (by omega)
        rw [show 97 + (c - 97) = c by omega] at e
        exact List.mem_of_getElem? e
      refine ⟨rfl, lcT ⟨_, rfl, c, LET, rfl, rfl, _, upd_same, ?_, ?_⟩⟩
      · rw [List.length_map, List.length_replicate]
        have h1 := hz.len8
        exact Nat.lt_of_le_of_lt (show i ≤ 1000 by have : z.length = z.cps.size := rfl; omega) (by decide)
      · rw [upd_upd, decide_eq_true hm, rep_succ]
    · rintro H3 rfl
      refine ⟨Da, _, rfl, SqL.of upd_same, ?_⟩
      rw [all_true]
      exact q _ (same_new nD)
def spIsKey (K : PySem.W.Frag) : Sp := fun vs H Q _ => ∃ (x : V) (a : Addr), vs = [x, .ref a] ∧ ((∃ z : Str, x = .str z ∧ ((∃ l : List Str, (SqL K H a (l.map V.str) ∨ SqT K H a (l.map V.str)) ∧ Q (.bl (decide (z ∈ l))) H) ∨ (∃ kvs, Rd H a (.dK kvs) ∧ Q (.bl (valV kvs (Sum.inr z)).isSome) H))) ∨
  (∃ t, TyX K H x t ∧ PySem.W.kitOne K t (.type "str") = some false ∧ Q (.bl false) H))
theorem ok_is_key {f : Addr} {fd : FuncData} (D : Df K mg "is_key" s_is_key f fd ["name", "table"]) (T : Nms mg) : FnOk P w K mg base CX0 1 f fd ["name", "table"] (spIsKey K) := by
  refine D.F.ok sc_is_key (fun vs H Q E h => ?_) (fun cdv A outer s H vs Q E hr h => ?_)
  · obtain ⟨z, a, rfl, _⟩ := h
    rfl
  · obtain ⟨x, a, rfl, h⟩ := h
    have hu := hu_of hr
    refine ⟨_, (pss_one (ps_ret (pe_and (pe_callB call_isi (by rfl) T.n_isinstance (by decide +kernel) (pa_cons (pv 0) (pa_cons (pe_bltn (v := .ty "str") (by rfl) T.n_str (by decide +kernel) rfl) pa_nil))) (pe_one (pe_cmpR (op_in_any hu) (pv 0) (pv 1) (by rfl)))))), ?_⟩
    rcases h with ⟨z, rfl, h⟩ | ⟨t, ht, hk, q⟩
    · refine ⟨.str z, rfl, _, _, _, _, true, rfl, .ty "str", .base (.str z), kit_ty (by decide +kernel), true, rfl, iteT ?_⟩
      rcases h with ⟨l, hl, q⟩ | ⟨kvs, hk, q⟩
      · refine ⟨.str z, rfl, .ref a, rfl, .inl ⟨a, _, rfl, hl, rfl, flat_map l, ?_⟩⟩
        rw [inV_strs]
        exact q
      · exact ⟨.str z, rfl, .ref a, rfl, .inr ⟨a, _, rfl, .inl ⟨kvs, .inr z, hk, rfl, rfl⟩, q⟩⟩
    · exact ⟨x, rfl, _, _, _, _, false, rfl, .ty "str", ht, hk, false, rfl, iteF q⟩
end
end NW
namespace NW
open PySem PySem.Spec PyProof.Rows L2
theorem same_unlock {H H' : Hp} {d : Addr} {u : HO} {od : Obj} (e : H d = some u) (x : Same (upd H d (.frz od u)) H') : Same H (upd H' d u) := fun b o h => by
  by_cases n : b = d
  · subst n
    rw [e] at h
    cases h
    exact upd_same
  · rw [upd_ne n]
    exact x b o (by rw [upd_ne n]; exact h)
/-- all of a comprehension's items are True, and nothing that stood changes -/
theorem lc_all {J : It} {n j : Nat} {G : Hp → Prop} {Y : Nat → Hp → V → Hp → Prop} (w : Walk J n G Y) {te : TE} {vs : List Nat} {σ : L2.St} {H1 : Hp} {Da : Addr} {Qd : Hp → Prop} (Itm : Nat → V → Prop)
    (hY : ∀ i H x H', i < n → Y i H x H' → H' = H ∧ Itm i x) (hG : ∀ H, Same H1 H → G H) (nD : H1 Da = none) (hn : n ≤ 1000) (hw : ∀ x, wipe ((wipe σ vs).set j (some x)) vs = wipe σ vs)
    (hs : ∀ i x H (Q : VK), i < n → Itm i x → Same H1 H → (∀ H4, Same H H4 → Q (.bl true) H4) → te ((wipe σ vs).set j (some x)) H Q)
    (hd : ∀ H, Same H1 H → H Da = some (.lst ((List.replicate n true).map V.bl)) → Qd H) :
    ∃ W : Nat → Nat → Hp → Prop, (∃ m, W 0 m (upd H1 Da (.lst []))) ∧ ∀ i m H, W i m H →
      (J.stop i H ∧ Qd H) ∨ (J.go i H ∧ ∃ Nx : Hp → Prop, (∀ H', Nx H' → ∃ m', m' < m ∧ W (i + 1) m' H') ∧ ∀ x H', J.yld i H x H' → gName j x (wipe σ vs) H' fun σ2 H2 => wipe σ2 vs = wipe σ vs ∧ tYes σ2 H2 fun b H3 =>
        if b = true then te σ2 H3 fun y H4 => ∃ acc, H4 Da = some (.lst acc) ∧ acc.length < sizeLine ∧ Nx (upd H4 Da (.lst (acc ++ [y]))) else Nx H3) := by
  refine lc_it w (fun i H' => Same H1 H' ∧ H' Da = some (.lst ((List.replicate i true).map V.bl))) ⟨same_new nD, upd_same⟩ (fun i H _ p => hG H p.1) ?_ (fun H p => hd H p.1 p.2)
  rintro i x H H' hi ⟨sm, e⟩ y
  obtain ⟨rfl, it⟩ := hY i H x H' hi y
  refine ⟨hw x, lcT (hs i x _ _ hi it sm fun H4 s4 => ⟨_, s4 _ _ e, ?_, same_upd (sm.trans s4) nD, ?_⟩)⟩
  · rw [List.length_map, List.length_replicate]
    exact Nat.lt_of_le_of_lt (show i ≤ 1000 by omega) (by decide)
  · rw [upd_same, rep_succ]
end NW
namespace NW
open PySem PySem.Spec PyProof.Rows L2
open TL (tl)
abbrev s_is_table : Stmt := topS 61
abbrev N_is_table : List Str := ["table", "least", "most", "taken", "name"]
theorem sc_is_table : FnScope N_is_table ["table", "least", "most", "taken"] (defScope s_is_table) := ⟨rfl, rfl, rfl, by decide +kernel, rfl, by decide +kernel, by decide +kernel⟩
abbrev s_is_choice : Stmt := topS 62
abbrev N_is_choice : List Str := ["names", "table", "name"]
theorem sc_is_choice : FnScope N_is_choice ["names", "table"] (defScope s_is_choice) := ⟨rfl, rfl, rfl, by decide +kernel, rfl, by decide +kernel, by decide +kernel⟩
section
variable {P : Program} {w : World} {K : PySem.W.Frag} {mg : Str → Option Value} {base : Heap}
def spIsTable (K : PySem.W.Frag) : Sp := fun vs H Q _ => ∃ (t tk : Addr) (kvs : List (Key × V)) (ns ts : List Str) (lo hi : Int), vs = [.ref t, .int lo, .int hi, .ref tk] ∧ H t = some (.dK kvs) ∧ kvs.map (·.1) = ns.map Sum.inr ∧
  (∀ z ∈ ns, IsName z ∧ z ∉ ts) ∧ lo ≤ ns.length ∧ ns.length ≤ hi ∧ ns.length ≤ 1000 ∧ (SqL K H tk (ts.map V.str) ∨ SqT K H tk (ts.map V.str)) ∧ ∀ H', Same H H' → Q (.bl true) H'
theorem sq_lock {H : Hp} {t tk : Addr} {kvs : List (Key × V)} {od : Obj} {xs : List V} (e : H t = some (.dK kvs)) (h : SqL K H tk xs ∨ SqT K H tk xs) : SqL K (upd H t (.frz od (.dK kvs))) tk xs ∨ SqT K (upd H t (.frz od (.dK kvs))) tk xs := by
  have one : ∀ {u : HO}, (u = .lst xs ∨ u = .tup xs) → Rd H tk u → Rd (upd H t (.frz od (.dK kvs))) tk u := by
    intro u hu h
    have n : tk ≠ t := by
      rintro rfl
      rcases h with h | ⟨o, h⟩
      · rw [e] at h
        rcases hu with rfl | rfl <;> cases h
      · rw [e] at h
        cases h
    rcases h with h | ⟨o, h⟩
    · exact .inl (by rw [upd_ne n]; exact h)
    · exact .inr ⟨o, by rw [upd_ne n]; exact h⟩
  rcases h with (h | h) | (h | h)
  · exact .inl (.inl (one (.inl rfl) h))
  · exact .inl (.inr h)
  · exact .inr (.inl (one (.inr rfl) h))
  · exact .inr (.inr h)
theorem sq_same {H H' : Hp} {tk : Addr} {xs : List V} (x : Same H H') (h : SqL K H tk xs ∨ SqT K H tk xs) : SqL K H' tk xs ∨ SqT K H' tk xs := by
  rcases h with h | h
  · exact .inl (x.seq h)
  · rcases h with (h | ⟨o, h⟩) | h
    · exact .inr (.inl (.inl (x _ _ h)))
    · exact .inr (.inl (.inr ⟨o, x _ _ h⟩))
    · exact .inr (.inr h)
theorem ok_is_table {f f1 : Addr} {fd fd1 : FuncData} (D : Df K mg "is_table" s_is_table f fd ["table", "least", "most", "taken"]) (D_is_name : Df K mg "is_name" s_is_name f1 fd1 ["word"]) (T : Nms mg) (C : Cst K mg) : FnOk P w K mg base CX0 2 f fd ["table", "least", "most", "taken"] (spIsTable K) := by
  have G_is_name : FnOk P w K mg base CX0 1 f1 fd1 ["word"] spIsName := ok_is_name D_is_name T C
  refine D.F.ok sc_is_table (fun vs H Q E h => ?_) (fun cdv A outer s H vs Q E hr h => ?_)
  · obtain ⟨t, tk, kvs, ns, ts, lo, hi, rfl, _⟩ := h
    rfl
  · obtain ⟨t, tk, kvs, ns, ts, lo, hi, rfl, ht, hk, hz, h0, h1, h3, htk, q⟩ := h
    have hl : kvs.length = ns.length := by
      have e := congrArg List.length hk
      rw [List.length_map, List.length_map] at e
      exact e
    refine ⟨_, (pss_cons (ps_if (PW.pt (pw_or (pt_not (pt_val (pe_callB call_isi (by rfl) T.n_isinstance (by decide +kernel) (pa_cons (pv 0) (pa_cons (pe_bltn (v := .ty "dict") (by rfl) T.n_dict (by decide +kernel) rfl) pa_nil))))) (pw_or1 (pt_not (pt_chain op_le op_le (pv 1) (pe_callB call_lenD (by rfl) T.n_len (by decide +kernel) (pa_cons (pv 0) pa_nil)) (pv 2))))))
       (pss_one (ps_ret pe_bl))
       pss_nil)
      (pss_one (ps_ret (pe_callB (cr_all rfl) (by rfl) T.n_all (by decide +kernel) (pa_cons (pe_lock (pe_lc (own := [("name", 4)]) (g := (gName 4)) (tt := tYes) rfl sc_is_table.nd (pi_keys (pv 0)) (blkOk_by (own := [("name", 4)]) (N := N_is_table) (sc := defScope s_is_table) (by decide +kernel)) (fun _ _ _ _ _ => (pg_name (i := 4) sc_is_table.nd rfl (.inl rfl))) (fun _ _ _ _ _ => pts_nil) (fun _ _ _ _ _ => (pe_and (pe_call G_is_name (hr.mono (by decide)) (by rfl) D_is_name.g D_is_name.F.kp D_is_name.b .nil pass0 (pa_cons (pv 4) pa_nil)) (pe_one (pe_cmpR (op_notIn_seqK K) (pv 4) (pv 3) (by rfl))))))) pa_nil))))), ?_⟩
    refine ⟨.ref t, rfl, _, _, _, _, true, rfl, .ty "dict", .base (.dK ht), kit_ty (by decide +kernel), true, rfl, iteF ?_⟩
    refine ⟨.int lo, rfl, .ref t, rfl, t, kvs, rfl, ht, _, _, rfl, rfl, true, blT (by omega), iteT ⟨.int hi, rfl, _, _, rfl, rfl, true, blT (by omega), iteF ?_⟩⟩
    refine ⟨t, .dK kvs, ht, trivial, fun od => ⟨.ref t, rfl, t, od, rfl, .inl ⟨kvs, upd_same, fun Da nD => ?_⟩⟩⟩
    refine lc_all walk_keys (fun i x => ∃ z, ns[i]? = some z ∧ x = .str z) ?_ (fun H sm => sm _ _ upd_same) nD (by omega) (fun _ => rfl) ?_ ?_
    · rintro i H x H' hi ⟨rfl, k, v, e, rfl⟩
      have e2 : (kvs.map (·.1))[i]? = some k := by rw [List.getElem?_map, e]; rfl
      rw [hk, List.getElem?_map] at e2
      cases e3 : ns[i]? with
      | none => rw [e3] at e2; cases e2
      | some z =>
        rw [e3] at e2
        cases e2
        exact ⟨rfl, z, rfl, rfl⟩
    · rintro i x H2 Q2 hi ⟨z, ez, rfl⟩ sm k
      have hz2 := hz z (List.mem_of_getElem? ez)
      refine ⟨.str z, rfl, z, rfl, hz2.1, fun H3 s3 => ⟨true, rfl, iteT ?_⟩⟩
      refine ⟨.str z, rfl, .ref tk, rfl, tk, _, rfl, sq_same s3 (sq_same sm (sq_lock ht htk)), rfl, flat_map ts, ?_⟩
      rw [inV_strs, decide_eq_false hz2.2]
      exact k _ s3
    · intro H2 sm e2
      refine ⟨sm _ _ upd_same, Da, List.replicate kvs.length true, rfl, SqL.of ?_, ?_⟩
      · rw [upd_ne (show Da ≠ t from fun z => by rw [z, upd_same] at nD; cases nD)]
        exact e2
      · rw [all_true]
        exact q _ (same_unlock ht sm)
def spIsChoice (K : PySem.W.Frag) : Sp := fun vs H Q _ => ∃ (a t : Addr) (kvs : List (Key × V)) (zs : List Str), vs = [.ref a, .ref t] ∧ H a = some (.tup (zs.map V.str)) ∧ H t = some (.dK kvs) ∧
  zs.Nodup ∧ zs.length ≤ 1000 ∧ (∀ z ∈ zs, (valV kvs (Sum.inr z)).isSome = true) ∧ ∀ H', Same H H' → Q (.bl true) H'
theorem ok_is_choice {f f1 : Addr} {fd fd1 : FuncData} (D : Df K mg "is_choice" s_is_choice f fd ["names", "table"]) (D_is_key : Df K mg "is_key" s_is_key f1 fd1 ["name", "table"]) (T : Nms mg) : FnOk P w K mg base CX0 2 f fd ["names", "table"] (spIsChoice K) := by
  have G_is_key : FnOk P w K mg base CX0 1 f1 fd1 ["name", "table"] (spIsKey K) := ok_is_key D_is_key T
  refine D.F.ok sc_is_choice (fun vs H Q E h => ?_) (fun cdv A outer s H vs Q E hr h => ?_)
  · obtain ⟨a, t, kvs, zs, rfl, _⟩ := h
    rfl
  · obtain ⟨a, t, kvs, zs, rfl, ha, ht, hnd, hln, hin, q⟩ := h
    refine ⟨_, (pss_cons (ps_if (PW.pt (pw_or (pt_not (pt_val (pe_callB call_isi (by rfl) T.n_isinstance (by decide +kernel) (pa_cons (pv 0) (pa_cons (pe_bltn (v := .ty "tuple") (by rfl) T.n_tuple (by decide +kernel) rfl) pa_nil))))) (pw_or1 (pt_not (pt_val (pe_callB (cr_all rfl) (by rfl) T.n_all (by decide +kernel) (pa_cons (pe_lc (own := [("name", 2)]) (g := (gName 2)) (tt := tYes) rfl sc_is_choice.nd (pi_tup (pv 0)) (blkOk_by (own := [("name", 2)]) (N := N_is_choice) (sc := defScope s_is_choice) (by decide +kernel)) (fun _ _ _ _ _ => (pg_name (i := 2) sc_is_choice.nd rfl (.inl rfl))) (fun _ _ _ _ _ => pts_nil) (fun _ _ _ _ _ => (pe_call G_is_key (hr.mono (by decide)) (by rfl) D_is_key.g D_is_key.F.kp D_is_key.b .nil pass0 (pa_cons (pv 2) (pa_cons (pv 1) pa_nil))))) pa_nil)))))))
       (pss_one (ps_ret pe_bl))
       pss_nil)
      (pss_one (ps_ret (pe_cmpR op_eq (pe_lenSetN rfl (by rfl) T.n_len (by rfl) T.n_set (pv 0)) (pe_callB call_len_seq (by rfl) T.n_len (by decide +kernel) (pa_cons (pv 0) pa_nil)) (nomark _))))), ?_⟩
    refine ⟨.ref a, rfl, _, _, _, _, true, rfl, .ty "tuple", .base (.tup ha), kit_ty (by decide +kernel), true, rfl, iteF ?_⟩
    refine ⟨.ref a, rfl, a, rfl, ⟨_, .inl (.inl ha)⟩, fun Da nD => ?_⟩
    refine lc_all (walk_tup (xs := zs.map V.str)) (fun i x => ∃ z, zs[i]? = some z ∧ x = .str z) ?_ (fun H sm => .inl (.inl (sm _ _ ha))) nD (by rw [List.length_map]; exact hln) (fun _ => rfl) ?_ ?_
    · rintro i H x H' hi ⟨rfl, e⟩
      rw [List.getElem?_map] at e
      cases e3 : zs[i]? with
      | none => rw [e3] at e; cases e
      | some z =>
        rw [e3] at e
        cases e
        exact ⟨rfl, z, rfl, rfl⟩
    · rintro i x H2 Q2 hi ⟨z, ez, rfl⟩ sm k
      refine ⟨.str z, rfl, .ref t, rfl, .str z, t, rfl, .inl ⟨z, rfl, .inr ⟨kvs, .inl (sm _ _ ht), ?_⟩⟩⟩
      rw [hin z (List.mem_of_getElem? ez)]
      exact k _ (Same.refl _)
    · intro H2 sm e2
      refine ⟨Da, List.replicate (zs.map V.str).length true, rfl, SqL.of e2, true, ?_, iteF ?_⟩
      · rw [all_true]
      have ha2 : SqT K H2 a (zs.map V.str) := .inl (.inl (sm _ _ ha))
      refine ⟨.ref a, rfl, a, zs, rfl, ha2, hnd, hln, .ref a, rfl, a, _, rfl, .inr ha2, rfl, ?_⟩
      rw [List.length_map, decide_eq_true rfl]
      exact q _ sm
end
end NW
namespace NW
open PySem PySem.Spec PyProof.Rows L2
open TL (tl)
abbrev s_is_shape : Stmt := topS 20
abbrev N_is_shape : List Str := ["shape", "bases", "room", "outer"]
theorem sc_is_shape : FnScope N_is_shape ["shape", "bases", "room", "outer"] (defScope s_is_shape) := ⟨rfl, rfl, rfl, by decide +kernel, rfl, by decide +kernel, by decide +kernel⟩
/-- a def with two defaults -/
structure DfS (K : PySem.W.Frag) (mg : Str → Option Value) (f : Addr) (fd : FuncData) : Prop where
  F : FunD K "is_shape" "is_shape" (defArgs s_is_shape) (defBody s_is_shape) (defScope s_is_shape) [.int 4, .str ""] [] f fd
  g : mg "is_shape" = some (.ref f)
  b4 : Binds K fd ["shape", "bases", "room", "outer"] []
  b2 : ∃ ds, Vals [V.int 4, V.str ""] ds ∧ Binds K fd ["shape", "bases", "room", "outer"] ds
section
variable {P : Program} {w : World} {K : PySem.W.Frag} {mg : Str → Option Value} {base : Heap}
def spIsShape (K : PySem.W.Frag) (n : Nat) : Sp := fun vs H Q _ => ∃ (v : V) (bs : Addr) (l : List Str) (o : Str) (s : Shp), vs = [v, .ref bs, .int n, .str o] ∧ ShAt H v s ∧ okS l n (decide (o = "sure")) s ∧ SqL K H bs (l.map V.str) ∧ Q (.bl true) H
theorem inW_sure : inV (.str "sure") [.str "list", .str "sure"] = true := by decide +kernel
theorem inW_list : inV (.str "list") [.str "list", .str "sure"] = true := by decide +kernel
theorem list_sure : ¬ (V.str "list" = V.str "sure") := by decide +kernel
theorem ok_is_shape {f : Addr} {fd : FuncData} (D : DfS K mg f fd) (T : Nms mg) (C : Cst K mg) : ∀ n : Nat, FnOk P w K mg base CX0 (n + 1) f fd ["shape", "bases", "room", "outer"] (spIsShape K n) := by
  obtain ⟨wa, g_W, hW⟩ := C.WRAPPERS
  intro n
  induction n with
  | zero =>
    refine D.F.ok sc_is_shape (fun vs H Q E h => ?_) (fun cdv A outer s H vs Q E hr h => ?_)
    · obtain ⟨v, bs, l, o, s, rfl, _⟩ := h
      rfl
    · obtain ⟨v, bs, l, o, s, rfl, hv, hok, hb, q⟩ := h
      cases s with
      | sure s => exact hok.elim
      | list s => exact hok.elim
      | base z =>
        obtain rfl := hv
        refine ⟨_, pss_cons (ps_if (pt_not (pt_val (pe_callB call_isi (by rfl) T.n_isinstance (by decide +kernel) (pa_cons (pv 0) (pa_cons (pe_bltn (v := .ty "tuple") (by rfl) T.n_tuple (by decide +kernel) rfl) pa_nil)))))
         (pss_one (ps_ret (pe_and (pe_callB call_isi (by rfl) T.n_isinstance (by decide +kernel) (pa_cons (pv 0) (pa_cons (pe_bltn (v := .ty "str") (by rfl) T.n_str (by decide +kernel) rfl) pa_nil))) (pe_one (pe_cmpR op_in_seq (pv 0) (pv 1) (by rfl))))))
         pss_nil) (pss_cons ps_never (pss_cons ps_never (pss_one ps_never))), ?_⟩
        refine ⟨.str z, rfl, _, _, _, _, false, rfl, .ty "tuple", .base (.str z), kit_ty (by decide +kernel), false, rfl, iteT ?_⟩
        refine ⟨.str z, rfl, _, _, _, _, true, rfl, .ty "str", .base (.str z), kit_ty (by decide +kernel), true, rfl, iteT ⟨.str z, rfl, .ref bs, rfl, bs, _, rfl, .inl hb, rfl, flat_map l, ?_⟩⟩
        rw [inV_strs, decide_eq_true (show z ∈ l from hok)]
        exact q
  | succ n ih =>
    have G_is_shape := ih
    refine D.F.ok sc_is_shape (fun vs H Q E h => ?_) (fun cdv A outer s H vs Q E hr h => ?_)
    · obtain ⟨v, bs, l, o, s, rfl, _⟩ := h
      rfl
    · obtain ⟨v, bs, l, o, s, rfl, hv, hok, hb, q⟩ := h
      refine ⟨_, (pss_cons (ps_if (pt_not (pt_val (pe_callB call_isi (by rfl) T.n_isinstance (by decide +kernel) (pa_cons (pv 0) (pa_cons (pe_bltn (v := .ty "tuple") (by rfl) T.n_tuple (by decide +kernel) rfl) pa_nil)))))
         (pss_one (ps_ret (pe_and (pe_callB call_isi (by rfl) T.n_isinstance (by decide +kernel) (pa_cons (pv 0) (pa_cons (pe_bltn (v := .ty "str") (by rfl) T.n_str (by decide +kernel) rfl) pa_nil))) (pe_one (pe_cmpR op_in_seq (pv 0) (pv 1) (by rfl))))))
         pss_nil)
        (pss_cons (ps_if (PW.pt (pw_or (pt_cmpR op_eq (pv 2) pe_int (nomark _)) (pw_or (pt_cmpR op_ne (pe_callB call_len_seq (by rfl) T.n_len (by decide +kernel) (pa_cons (pv 0) pa_nil)) pe_int (nomark _)) (pw_or1 (pt_cmpR op_notIn_seq (pe_ix ix_tup (pv 0) pe_int (fun _ _ => rfl)) (pe_glob (v := .ref wa) (by rfl) g_W rfl) (by rfl))))))
         (pss_one (ps_ret pe_bl))
         pss_nil)
        (pss_cons (ps_if (PW.pt (pw_and (pt_cmpR op_eq (pe_ix ix_tup (pv 0) pe_int (fun _ _ => rfl)) pe_str (nomark _)) (pw_and1 (pt_cmpR op_eq (pv 3) pe_str (nomark _)))))
         (pss_one (ps_ret pe_bl))
         pss_nil)
        (pss_one (ps_ret (pe_call G_is_shape (hr.mono (by omega)) (by rfl) D.g D.F.kp D.b4 .nil pass0 (pa_cons (pe_ix ix_tup (pv 0) pe_int (fun _ _ => rfl)) (pa_cons (pv 1) (pa_cons (pe_op op_sub (pv 2) pe_int) (pa_cons (pe_ix ix_tup (pv 0) pe_int (fun _ _ => rfl)) pa_nil)))))))))), ?_⟩
      have n0 : ¬ (V.int ((n + 1 : Nat) : Int) = V.int 0) := fun e => by
        have := V.int.inj e
        omega
      cases s with
      | base z =>
        obtain rfl := hv
        refine ⟨.str z, rfl, _, _, _, _, false, rfl, .ty "tuple", .base (.str z), kit_ty (by decide +kernel), false, rfl, iteT ?_⟩
        refine ⟨.str z, rfl, _, _, _, _, true, rfl, .ty "str", .base (.str z), kit_ty (by decide +kernel), true, rfl, iteT ⟨.str z, rfl, .ref bs, rfl, bs, _, rfl, .inl hb, rfl, flat_map l, ?_⟩⟩
        rw [inV_strs, decide_eq_true (show z ∈ l from hok)]
        exact q
      | sure s =>
        obtain ⟨a, u, rfl, ha, hu⟩ := hv
        obtain ⟨ho, hok⟩ := hok
        have no : ¬ (V.str o = V.str "sure") := fun e => of_decide_eq_false ho (V.str.inj e)
        have hT : SqT K H a [.str "sure", u] := .inl (.inl ha)
        refine ⟨.ref a, rfl, _, _, _, _, true, rfl, .ty "tuple", .base (.tup ha), kit_ty (by decide +kernel), true, rfl, iteF ?_⟩
        refine ⟨_, rfl, rfl, false, blF n0, iteF ⟨.ref a, rfl, a, _, rfl, .inr hT, rfl, false, blNF rfl, iteF ⟨.ref a, rfl, a, _, 0, _, rfl, rfl, hT, atI_nat (j := 0) rfl, wa, _, rfl, .inr (hW H), rfl, rfl, false, ?_, iteF ?_⟩⟩⟩
        · show V.bl (!inV (.str "sure") [.str "list", .str "sure"]) = V.bl false
          rw [inW_sure]
          rfl
        refine ⟨.ref a, rfl, a, _, 0, _, rfl, rfl, hT, atI_nat (j := 0) rfl, rfl, true, blT rfl, iteT ⟨.str o, rfl, rfl, false, blF no, iteF ?_⟩⟩
        refine ⟨.ref a, rfl, a, _, 1, u, rfl, rfl, hT, atI_nat (j := 1) rfl, .ref bs, rfl, _, rfl, _, _, rfl, rfl, .ref a, rfl, a, _, 0, _, rfl, rfl, hT, atI_nat (j := 0) rfl, ?_⟩
        refine ⟨u, bs, l, "sure", s, ?_, hu, ?_, hb, q⟩
        · show [u, V.ref bs, V.int (((n + 1 : Nat) : Int) - 1), V.str "sure"] = [u, V.ref bs, V.int (n : Int), V.str "sure"]
          rw [show (((n + 1 : Nat) : Int) - 1) = (n : Int) by omega]
        · rw [decide_eq_true rfl]
          exact hok
      | list s =>
        obtain ⟨a, u, rfl, ha, hu⟩ := hv
        have hT : SqT K H a [.str "list", u] := .inl (.inl ha)
        refine ⟨.ref a, rfl, _, _, _, _, true, rfl, .ty "tuple", .base (.tup ha), kit_ty (by decide +kernel), true, rfl, iteF ?_⟩
        refine ⟨_, rfl, rfl, false, blF n0, iteF ⟨.ref a, rfl, a, _, rfl, .inr hT, rfl, false, blNF rfl, iteF ⟨.ref a, rfl, a, _, 0, _, rfl, rfl, hT, atI_nat (j := 0) rfl, wa, _, rfl, .inr (hW H), rfl, rfl, false, ?_, iteF ?_⟩⟩⟩
        · show V.bl (!inV (.str "list") [.str "list", .str "sure"]) = V.bl false
          rw [inW_list]
          rfl
        refine ⟨.ref a, rfl, a, _, 0, _, rfl, rfl, hT, atI_nat (j := 0) rfl, rfl, false, blF list_sure, iteF ?_⟩
        refine ⟨.ref a, rfl, a, _, 1, u, rfl, rfl, hT, atI_nat (j := 1) rfl, .ref bs, rfl, _, rfl, _, _, rfl, rfl, .ref a, rfl, a, _, 0, _, rfl, rfl, hT, atI_nat (j := 0) rfl, ?_⟩
        refine ⟨u, bs, l, "list", s, ?_, hu, ?_, hb, q⟩
        · show [u, V.ref bs, V.int (((n + 1 : Nat) : Int) - 1), V.str "list"] = [u, V.ref bs, V.int (n : Int), V.str "list"]
          rw [show (((n + 1 : Nat) : Int) - 1) = (n : Int) by omega]
        · rw [decide_eq_false (fun e => list_sure (congrArg V.str e))]
          exact hok
end
end NW
namespace NW
open PySem PySem.Spec PyProof.Rows L2
open TL (tl)
abbrev s_is_fields : Stmt := topS 63
abbrev N_is_fields : List Str := ["fields", "most", "bases", "name"]
theorem sc_is_fields : FnScope N_is_fields ["fields", "most", "bases"] (defScope s_is_fields) := ⟨rfl, rfl, rfl, by decide +kernel, rfl, by decide +kernel, by decide +kernel⟩
abbrev s_is_kind : Stmt := topS 64
abbrev N_is_kind : List Str := ["worth", "faces", "bases"]
theorem sc_is_kind : FnScope N_is_kind ["worth", "faces", "bases"] (defScope s_is_kind) := ⟨rfl, rfl, rfl, by decide +kernel, rfl, by decide +kernel, by decide +kernel⟩
abbrev s_has_fields : Stmt := topS 66
abbrev N_has_fields : List Str := ["holder", "fields", "field"]
theorem sc_has_fields : FnScope N_has_fields ["holder", "fields"] (defScope s_has_fields) := ⟨rfl, rfl, rfl, by decide +kernel, rfl, by decide +kernel, by decide +kernel⟩
abbrev s_is_face : Stmt := topS 65
abbrev N_is_face : List Str := ["name", "fields", "kinds", "bases", "holders", "kind", "holder"]
theorem sc_is_face : FnScope N_is_face ["name", "fields", "kinds", "bases"] (defScope s_is_face) := ⟨rfl, rfl, rfl, by decide +kernel, rfl, by decide +kernel, by decide +kernel⟩
abbrev s_is_union : Stmt := topS 67
abbrev N_is_union : List Str := ["worth", "kinds"]
theorem sc_is_union : FnScope N_is_union ["worth", "kinds"] (defScope s_is_union) := ⟨rfl, rfl, rfl, by decide +kernel, rfl, by decide +kernel, by decide +kernel⟩
/-! ### shapes as data -/
def shD : Shp → PyData
  | .base z => .str z
  | .sure s => .tuple [.str "sure", shD s]
  | .list s => .tuple [.str "list", shD s]
theorem tx_sure : PyData.strOk "sure" = true := by decide +kernel
theorem tx_list : PyData.strOk "list" = true := by decide +kernel
theorem shD_lay {l : List Str} (tx : ∀ z ∈ l, PyData.strOk z = true) : ∀ {s : Shp} {n : Nat} {o : Bool}, okS l n o s → (shD s).canLay0 = true := by
  intro s
  induction s with
  | base z =>
    intro n o h
    simp only [shD, PyData.canLay0]
    exact tx z (by cases n <;> exact h)
  | sure s ih =>
    intro n o h
    cases n with
    | zero => exact h.elim
    | succ n => simp [shD, PyData.canLay0, PyData.canLayAll0, ih h.2, tx_sure]
  | list s ih =>
    intro n o h
    cases n with
    | zero => exact h.elim
    | succ n => simp [shD, PyData.canLay0, PyData.canLayAll0, ih (show okS l n false s from h), tx_list]
def Shp.deep : Shp → Nat
  | .base _ => 0
  | .sure s => s.deep + 1
  | .list s => s.deep + 1
section
variable {P : Program} {w : World} {K : PySem.W.Frag} {mg : Str → Option Value} {base : Heap}

theorem shD_dp {H : Hp} : ∀ {s : Shp} {v : V}, ShAt H v s → Dp K H v (shD s) := by
  intro s
  induction s with
  | base z => rintro v rfl; exact .str z
  | sure s ih =>
    rintro v ⟨a, u, rfl, ha, hu⟩
    exact .tup (.inl (.inl ha)) (.cons (.str _) (.cons (ih hu) .nil))
  | list s ih =>
    rintro v ⟨a, u, rfl, ha, hu⟩
    exact .tup (.inl (.inl ha)) (.cons (.str _) (.cons (ih hu) .nil))
theorem okS_deep {l : List Str} : ∀ {n : Nat} {o : Bool} {s : Shp}, okS l n o s → s.deep ≤ n := by
  intro n o s
  induction s generalizing n o with
  | base z => intro _; exact Nat.zero_le _
  | sure s ih =>
    intro h
    cases n with
    | zero => exact h.elim
    | succ n => exact Nat.succ_le_succ (ih h.2)
  | list s ih =>
    intro h
    cases n with
    | zero => exact h.elim
    | succ n => exact Nat.succ_le_succ (ih (show okS l n false s from h))
theorem shD_deep : ∀ s : Shp, (shD s).depth ≤ s.deep + 1 := by
  intro s
  induction s with
  | base z => simp [shD, PyData.depth]
  | sure s ih => simp [shD, PyData.depth, PyData.depthAll, Shp.deep]; omega
  | list s ih => simp [shD, PyData.depth, PyData.depthAll, Shp.deep]; omega
theorem shD_ok {l : List Str} {o : Bool} {s : Shp} (tx : ∀ z ∈ l, PyData.strOk z = true) (h : okS l 4 o s) : SeqAt.shaped (shD s) = true := by
  have h1 := okS_deep h
  have h2 := shD_deep s
  exact Bool.and_eq_true_iff.mpr ⟨shD_lay tx h, decide_eq_true (by omega)⟩
/-! ### a dict that is walked -/
theorem sqL_put {H : Hp} {t tk : Addr} {kvs : List (Key × V)} {o : HO} {xs : List V} (e : H t = some (.dK kvs)) (h : SqL K H tk xs) : SqL K (upd H t o) tk xs := by
  rcases h with (h | ⟨o', h⟩) | h
  · exact .inl (.inl (by rw [upd_ne (ne_of h e (by intro z; cases z))]; exact h))
  · exact .inl (.inr ⟨o', by rw [upd_ne (ne_of h e (by intro z; cases z))]; exact h⟩)
  · exact .inr h
theorem rd_put {H : Hp} {a d : Addr} {kvs : List (Key × V)} {u : HO} {od : Obj} (e : H d = some u) (h : H a = some (.dK kvs)) : Rd (upd H d (.frz od u)) a (.dK kvs) := by
  by_cases n : a = d
  · subst n
    rw [e] at h
    cases h
    exact .inr ⟨od, upd_same⟩
  · exact .inl (by rw [upd_ne n]; exact h)
theorem rd_same {H H' : Hp} {a : Addr} {u : HO} (x : Same H H') (h : Rd H a u) : Rd H' a u := by
  rcases h with h | ⟨o, h⟩
  · exact .inl (x _ _ h)
  · exact .inr ⟨o, x _ _ h⟩
theorem fkv_keys (fs : List Fld) : (fkv fs).map (·.1) = (fs.map (·.1)).map Sum.inr := keys_map fs (·.1) (·.2.1)
theorem fkv_at {fs : List Fld} {i : Nat} {k : Key} {v : V} (e : (fkv fs)[i]? = some (k, v)) : ∃ f, fs[i]? = some f ∧ k = Sum.inr f.1 ∧ v = f.2.1 := by
  unfold fkv at e
  rw [List.getElem?_map] at e
  cases h : fs[i]? with
  | none => rw [h] at e; cases e
  | some f =>
    rw [h] at e
    cases e
    exact ⟨f, rfl, rfl, rfl⟩
theorem fkv_val {fs : List Fld} (nd : (fs.map (·.1)).Nodup) {f : Fld} (m : f ∈ fs) : valV (fkv fs) (Sum.inr f.1) = some f.2.1 := valV_map (f := fun f : Fld => f.1) (g := fun f => f.2.1) nd m
def spIsFields (K : PySem.W.Frag) : Sp := fun vs H Q _ => ∃ (d bs : Addr) (m : Nat) (fs : List Fld) (l : List Str), vs = [.ref d, .int m, .ref bs] ∧ FldAt H d fs ∧ FdsOk l fs m ∧ m ≤ 1000 ∧ SqL K H bs (l.map V.str) ∧ ∀ H', Same H H' → Q (.bl true) H'
theorem ok_is_fields {f f1 f2 : Addr} {fd fd1 fd2 : FuncData} (D : Df K mg "is_fields" s_is_fields f fd ["fields", "most", "bases"]) (D_is_table : Df K mg "is_table" s_is_table f1 fd1 ["table", "least", "most", "taken"])
    (D_is_shape : DfS K mg f2 fd2) (T : Nms mg) (C : Cst K mg) (G_is_table : FnOk P w K mg base CX0 2 f1 fd1 ["table", "least", "most", "taken"] (spIsTable K)) : FnOk P w K mg base CX0 6 f fd ["fields", "most", "bases"] (spIsFields K) := by
  have G_is_shape : FnOk P w K mg base CX0 5 f2 fd2 ["shape", "bases", "room", "outer"] (spIsShape K 4) := ok_is_shape D_is_shape T C 4
  obtain ⟨ds, rS, bS⟩ := D_is_shape.b2
  refine D.F.ok sc_is_fields (fun vs H Q E h => ?_) (fun cdv A outer s H vs Q E hr h => ?_)
  · obtain ⟨d, bs, m, fs, l, rfl, _⟩ := h
    rfl
  · obtain ⟨d, bs, m, fs, l, rfl, hf, ok, hm, hb, q⟩ := h
    have hu := hu_of hr
    refine ⟨_, (pss_cons (ps_if (pt_not (pt_val (pe_call G_is_table (hr.mono (by decide)) (by rfl) D_is_table.g D_is_table.F.kp D_is_table.b .nil pass0 (pa_cons (pv 0) (pa_cons pe_int (pa_cons (pv 1) (pa_cons (pe_tup pa_nil) pa_nil)))))))
       (pss_one (ps_ret pe_bl))
       pss_nil)
      (pss_one (ps_ret (pe_callB (cr_all rfl) (by rfl) T.n_all (by decide +kernel) (pa_cons (pe_lock (pe_lc (own := [("name", 3)]) (g := (gName 3)) (tt := tYes) rfl sc_is_fields.nd (pi_keys (pv 0)) (blkOk_by (own := [("name", 3)]) (N := N_is_fields) (sc := defScope s_is_fields) (by decide +kernel)) (fun _ _ _ _ _ => (pg_name (i := 3) sc_is_fields.nd rfl (.inl rfl))) (fun _ _ _ _ _ => pts_nil) (fun _ _ _ _ _ => (pe_call G_is_shape (hr.mono (by decide)) (by rfl) D_is_shape.g D_is_shape.F.kp bS rS pass0 (pa_cons (pe_dget hu (pv 0) (pv 3) (fun _ _ => rfl)) (pa_cons (pv 2) pa_nil)))))) pa_nil))))), ?_⟩
    -- is_table(fields, 1, most, ())
    refine ⟨.ref d, rfl, .int m, rfl, Nat.zero_le _, fun p np => ?_⟩
    refine ⟨d, p, fkv fs, fs.map (·.1), [], 1, m, rfl, by rw [upd_ne (ne_of_none hf.at_ np)]; exact hf.at_, fkv_keys fs, fun z hz => ⟨?_, by simp⟩, ?_, ?_, ?_, .inr (.inl (.inl upd_same)), fun H1 s1 => ⟨true, rfl, iteF ?_⟩⟩
    · obtain ⟨x, hx, rfl⟩ := List.mem_map.mp hz
      exact ok.nm x hx
    · rw [List.length_map]; have := ok.n0; omega
    · rw [List.length_map]; have := ok.n1; omega
    · rw [List.length_map]; have := ok.n1; omega
    have sm1 : Same H H1 := (same_new np).trans s1
    have hf1 := hf.same sm1
    -- all([..])
    refine ⟨d, .dK (fkv fs), hf1.at_, trivial, fun od => ⟨.ref d, rfl, d, od, rfl, .inl ⟨fkv fs, upd_same, fun Da nD => ?_⟩⟩⟩
    have hfl : (fkv fs).length = fs.length := List.length_map ..
    refine lc_all walk_keys (fun i x => ∃ f, fs[i]? = some f ∧ x = .str f.1) ?_ (fun H sm => sm _ _ upd_same) nD (by rw [hfl]; have := ok.n1; omega) (fun _ => rfl) ?_ ?_
    · rintro i H x H' hi ⟨rfl, k, v, e, rfl⟩
      obtain ⟨f, ef, rfl, rfl⟩ := fkv_at e
      exact ⟨rfl, f, ef, rfl⟩
    · rintro i x H2 Q2 hi ⟨f, ef, rfl⟩ sm k
      have hm := List.mem_of_getElem? ef
      refine ⟨.ref d, rfl, .str f.1, rfl, d, f.2.1, rfl, .inl ⟨fkv fs, .inr f.1, .inr ⟨od, sm _ _ upd_same⟩, rfl, (fkv_val ok.nd hm).symm⟩, .ref bs, rfl, ?_⟩
      refine ⟨f.2.1, bs, l, "", f.2.2, rfl, ?_, ?_, sm.seq (sqL_put hf1.at_ (sm1.seq hb)), k _ (Same.refl _)⟩
      · exact ((hf1.sh f hm).gr (xs := []) (.inr ⟨_, hf1.at_⟩) Gr.box).same sm
      · rw [decide_eq_false (show ¬ (("" : Str) = "sure") by decide +kernel)]
        exact ok.sh f hm
    · intro H2 sm e2
      refine ⟨sm _ _ upd_same, Da, List.replicate (fkv fs).length true, rfl, SqL.of ?_, ?_⟩
      · rw [upd_ne (show Da ≠ d from fun z => by rw [z, upd_same] at nD; cases nD)]
        exact e2
      · rw [all_true]
        exact q _ (sm1.trans (same_unlock hf1.at_ sm))
def spIsKind (K : PySem.W.Frag) : Sp := fun vs H Q _ => ∃ (k : KRow) (ft bs : Addr) (kvs : List (Key × V)) (l : List Str), vs = [.ref k.t, .ref ft, .ref bs] ∧ k.At H ∧ H ft = some (.dK kvs) ∧ k.fcs.Nodup ∧ k.fcs.length ≤ 1000 ∧ (∀ z ∈ k.fcs, (valV kvs (Sum.inr z)).isSome = true) ∧
  FdsOk l k.fds 5 ∧ SqL K H bs (l.map V.str) ∧ ∀ H', Same H H' → Q (.bl true) H'
theorem ok_is_kind {f f1 f2 : Addr} {fd fd1 fd2 : FuncData} (D : Df K mg "is_kind" s_is_kind f fd ["worth", "faces", "bases"]) (D_is_choice : Df K mg "is_choice" s_is_choice f1 fd1 ["names", "table"])
    (D_is_fields : Df K mg "is_fields" s_is_fields f2 fd2 ["fields", "most", "bases"]) (T : Nms mg) (C : Cst K mg) (G_is_choice : FnOk P w K mg base CX0 2 f1 fd1 ["names", "table"] (spIsChoice K)) (G_is_fields : FnOk P w K mg base CX0 6 f2 fd2 ["fields", "most", "bases"] (spIsFields K)) :
    FnOk P w K mg base CX0 7 f fd ["worth", "faces", "bases"] (spIsKind K) := by
  obtain ⟨t5, g_M⟩ := C.MOST_KIND_FIELDS
  refine D.F.ok sc_is_kind (fun vs H Q E h => ?_) (fun cdv A outer s H vs Q E hr h => ?_)
  · obtain ⟨k, ft, bs, kvs, l, rfl, _⟩ := h
    rfl
  · obtain ⟨k, ft, bs, kvs, l, rfl, hk, hft, hnd, hln, hin, ok, hb, q⟩ := h
    refine ⟨_, (pss_cons (ps_if (PW.pt (pw_or (pt_not (pt_val (pe_callB call_isi (by rfl) T.n_isinstance (by decide +kernel) (pa_cons (pv 0) (pa_cons (pe_bltn (v := .ty "tuple") (by rfl) T.n_tuple (by decide +kernel) rfl) pa_nil))))) (pw_or1 (pt_cmpR op_ne (pe_callB call_len_seq (by rfl) T.n_len (by decide +kernel) (pa_cons (pv 0) pa_nil)) pe_int (nomark _)))))
       (pss_one (ps_ret pe_bl))
       pss_nil)
      (pss_one (ps_ret (pe_and (pe_call G_is_choice (hr.mono (by decide)) (by rfl) D_is_choice.g D_is_choice.F.kp D_is_choice.b .nil pass0 (pa_cons (pe_ix ix_tup (pv 0) pe_int (fun _ _ => rfl)) (pa_cons (pv 1) pa_nil))) (pe_one (pe_call G_is_fields (hr.mono (by decide)) (by rfl) D_is_fields.g D_is_fields.F.kp D_is_fields.b .nil pass0 (pa_cons (pe_ix ix_tup (pv 0) pe_int (fun _ _ => rfl)) (pa_cons (pe_glob (v := .int 5) (by rfl) g_M ⟨_, rfl⟩) (pa_cons (pv 2) pa_nil))))))))), ?_⟩
    have hT : SqT K H k.t [.ref k.fa, .ref k.da] := .inl (.inl hk.t)
    refine ⟨.ref k.t, rfl, _, _, _, _, true, rfl, .ty "tuple", .base (.tup hk.t), kit_ty (by decide +kernel), true, rfl, iteF ⟨.ref k.t, rfl, k.t, _, rfl, .inr hT, rfl, false, blNF rfl, iteF ?_⟩⟩
    refine ⟨.ref k.t, rfl, k.t, _, 0, _, rfl, rfl, hT, atI_nat (j := 0) rfl, .ref ft, rfl, k.fa, ft, kvs, k.fcs, rfl, hk.f, hft, hnd, hln, hin, fun H1 s1 => ⟨true, rfl, iteT ?_⟩⟩
    have hk1 := hk.same s1
    refine ⟨.ref k.t, rfl, k.t, _, 1, _, rfl, rfl, .inl (.inl hk1.t), atI_nat (j := 1) rfl, .ref bs, rfl, k.da, bs, 5, k.fds, l, rfl, hk1.d, ok, by decide, s1.seq hb, fun H2 s2 => q _ (s1.trans s2)⟩
def spHasFields : Sp := fun vs H Q _ => ∃ (h d : Addr) (hs fs : List Fld) (l : List Str) (n : Nat), vs = [.ref h, .ref d] ∧ FldAt H h hs ∧ FldAt H d fs ∧ (hs.map (·.1)).Nodup ∧ FdsOk l fs n ∧ n ≤ 1000 ∧ (∀ x ∈ fs, ∃ y ∈ hs, y.1 = x.1 ∧ y.2.2 = x.2.2) ∧ ∀ H', Same H H' → Q (.bl true) H'
theorem ok_has_fields {f : Addr} {fd : FuncData} (D : Df K mg "has_fields" s_has_fields f fd ["holder", "fields"]) (T : Nms mg) : FnOk P w K mg base CX0 1 f fd ["holder", "fields"] spHasFields := by
  refine D.F.ok sc_has_fields (fun vs H Q E h => ?_) (fun cdv A outer s H vs Q E hr h => ?_)
  · obtain ⟨h, d, hs, fs, l, n, rfl, _⟩ := h
    rfl
  · obtain ⟨h, d, hs, fs, l, n, rfl, hh, hf, hnd, ok, hn, hin, q⟩ := h
    have hu := hu_of hr
    refine ⟨_, (pss_one (ps_ret (pe_callB (cr_all rfl) (by rfl) T.n_all (by decide +kernel) (pa_cons (pe_lock (pe_lc (own := [("field", 2)]) (g := (gName 2)) (tt := tYes) rfl sc_has_fields.nd (pi_keys (pv 1)) (blkOk_by (own := [("field", 2)]) (N := N_has_fields) (sc := defScope s_has_fields) (by decide +kernel)) (fun _ _ _ _ _ => (pg_name (i := 2) sc_has_fields.nd rfl (.inl rfl))) (fun _ _ _ _ _ => pts_nil) (fun _ _ _ _ _ => (pe_and (pe_cmp (pc_din hu (pv 2) (pv 0)) rfl) (pe_one (pe_cmpR (op_eqDK K hr.units) (pe_dget hu (pv 0) (pv 2) (fun _ _ => rfl)) (pe_dget hu (pv 1) (pv 2) (fun _ _ => rfl)) (nomark _))))))) pa_nil)))), ?_⟩
    refine ⟨d, .dK (fkv fs), hf.at_, trivial, fun od => ⟨.ref d, rfl, d, od, rfl, .inl ⟨fkv fs, upd_same, fun Da nD => ?_⟩⟩⟩
    have hfl : (fkv fs).length = fs.length := List.length_map ..
    refine lc_all walk_keys (fun i x => ∃ f, fs[i]? = some f ∧ x = .str f.1) ?_ (fun H sm => sm _ _ upd_same) nD (by rw [hfl]; have := ok.n1; omega) (fun _ => rfl) ?_ ?_
    · rintro i H x H' hi ⟨rfl, k, v, e, rfl⟩
      obtain ⟨f, ef, rfl, rfl⟩ := fkv_at e
      exact ⟨rfl, f, ef, rfl⟩
    · rintro i x H2 Q2 hi ⟨f, ef, rfl⟩ sm k
      have hm := List.mem_of_getElem? ef
      obtain ⟨y, ym, y1, y2⟩ := hin f hm
      have rh : Rd H2 h (.dK (fkv hs)) := rd_same sm (rd_put hf.at_ hh.at_)
      have vy : valV (fkv hs) (Sum.inr f.1) = some y.2.1 := by rw [← y1]; exact fkv_val hnd ym
      have sh1 : ShAt H2 y.2.1 f.2.2 := by
        rw [← y2]
        exact ((hh.sh y ym).gr (xs := []) (.inr ⟨_, hf.at_⟩) Gr.box).same sm
      have sh2 : ShAt H2 f.2.1 f.2.2 := ((hf.sh f hm).gr (xs := []) (.inr ⟨_, hf.at_⟩) Gr.box).same sm
      refine ⟨.str f.1, rfl, .ref h, rfl, h, some y.2.1, rfl, .inl ⟨fkv hs, .inr f.1, rh, rfl, vy.symm⟩, true, rfl, iteT ?_⟩
      refine ⟨.ref h, rfl, .str f.1, rfl, h, y.2.1, rfl, .inl ⟨fkv hs, .inr f.1, rh, rfl, vy.symm⟩, .ref d, rfl, .str f.1, rfl, d, f.2.1, rfl, .inl ⟨fkv fs, .inr f.1, .inr ⟨od, sm _ _ upd_same⟩, rfl, (fkv_val ok.nd hm).symm⟩, ?_⟩
      refine ⟨shD f.2.2, shD f.2.2, shD_dp sh1, shD_dp sh2, shD_ok ok.tx (ok.sh f hm), shD_ok ok.tx (ok.sh f hm), ?_⟩
      rw [SeqAt.eqv_refl _ (shD_lay ok.tx (ok.sh f hm))]
      exact k _ (Same.refl _)
    · intro H2 sm e2
      refine ⟨sm _ _ upd_same, Da, List.replicate (fkv fs).length true, rfl, SqL.of ?_, ?_⟩
      · rw [upd_ne (show Da ≠ d from fun z => by rw [z, upd_same] at nD; cases nD)]
        exact e2
      · rw [all_true]
        exact q _ (same_unlock hf.at_ sm)
def spIsUnion : Sp := fun vs H Q _ => ∃ (a kt : Addr) (kvs : List (Key × V)) (ms : List Str), vs = [.ref a, .ref kt] ∧ H a = some (.tup (ms.map V.str)) ∧ H kt = some (.dK kvs) ∧ ms.Nodup ∧ 1 ≤ ms.length ∧ ms.length ≤ 4 ∧ (∀ z ∈ ms, (valV kvs (Sum.inr z)).isSome = true) ∧ ∀ H', Same H H' → Q (.bl true) H'
theorem ok_is_union {f f1 : Addr} {fd fd1 : FuncData} (D : Df K mg "is_union" s_is_union f fd ["worth", "kinds"]) (D_is_choice : Df K mg "is_choice" s_is_choice f1 fd1 ["names", "table"]) (T : Nms mg) (C : Cst K mg)
    (G_is_choice : FnOk P w K mg base CX0 2 f1 fd1 ["names", "table"] (spIsChoice K)) : FnOk P w K mg base CX0 3 f fd ["worth", "kinds"] spIsUnion := by
  obtain ⟨t4, g_M⟩ := C.MOST_UNION_KINDS
  refine D.F.ok sc_is_union (fun vs H Q E h => ?_) (fun cdv A outer s H vs Q E hr h => ?_)
  · obtain ⟨a, kt, kvs, ms, rfl, _⟩ := h
    rfl
  · obtain ⟨a, kt, kvs, ms, rfl, ha, hk, hnd, h1, h4, hin, q⟩ := h
    refine ⟨_, (pss_one (ps_ret (pe_and (pe_call G_is_choice (hr.mono (by decide)) (by rfl) D_is_choice.g D_is_choice.F.kp D_is_choice.b .nil pass0 (pa_cons (pv 0) (pa_cons (pv 1) pa_nil))) (pe_one (pe_chain op_le op_le pe_int (pe_callB call_len_seq (by rfl) T.n_len (by decide +kernel) (pa_cons (pv 0) pa_nil)) (pe_glob (v := .int 4) (by rfl) g_M ⟨_, rfl⟩)))))), ?_⟩
    refine ⟨.ref a, rfl, .ref kt, rfl, a, kt, kvs, ms, rfl, ha, hk, hnd, by omega, hin, fun H1 s1 => ⟨true, rfl, iteT ?_⟩⟩
    refine ⟨.ref a, rfl, a, _, rfl, .inr (.inl (.inl (s1 _ _ ha))), _, _, rfl, rfl, true, blT (by rw [List.length_map]; omega), iteT ⟨_, _, rfl, rfl, ?_⟩⟩
    have e : decide (((ms.map V.str).length : Int) ≤ 4) = true := decide_eq_true (by rw [List.length_map]; omega)
    show Q (.bl (decide (((ms.map V.str).length : Int) ≤ 4))) H1
    rw [e]
    exact q _ s1
end
end NW
namespace NW
open PySem PySem.Spec PyProof.Rows L2
open TL (tl)
open StX (pa_star)
abbrev s_check_names : Stmt := topS 60
abbrev N_check_names : List Str := ["kinds", "faces", "unions"]
theorem sc_check_names : FnScope N_check_names ["kinds", "faces", "unions"] (defScope s_check_names) := ⟨rfl, rfl, rfl, by decide +kernel, rfl, by decide +kernel, by decide +kernel⟩
abbrev s_check_schema : Stmt := topS 59
abbrev N_check_schema : List Str := ["kinds", "faces", "unions", "root", "bases", "name"]
theorem sc_check_schema : FnScope N_check_schema ["kinds", "faces", "unions", "root"] (defScope s_check_schema) := ⟨rfl, rfl, rfl, by decide +kernel, rfl, by decide +kernel, by decide +kernel⟩
theorem kV_map {α : Type} (l : List α) (f : α → Str) (g : α → V) : ((l.map fun a => ((Sum.inr (f a) : Key), g a)).map fun kv => kV kv.1) = (l.map f).map V.str := by
  rw [List.map_map, List.map_map]
  rfl
abbrev dkeys (kvs : List (Key × V)) : List V := kvs.map fun kv => kV kv.1
abbrev LV : List Str := [("number" : Str), ("text" : Str)]
theorem dkeys_k (ks : List KRow) : dkeys (kkv ks) = (ks.map fun k : KRow => k.nm).map V.str := kV_map ks (fun k => k.nm) (fun k => V.ref k.t)
theorem dkeys_f (fs : List FRow) : dkeys (fkvs fs) = (fs.map fun k : FRow => k.nm).map V.str := kV_map fs (fun k => k.nm) (fun k => V.ref k.da)
theorem dkeys_u (us : List URow) : dkeys (ukv us) = (us.map fun k : URow => k.nm).map V.str := kV_map us (fun k => k.nm) (fun k => V.ref k.t)
theorem dkeys_len (kvs : List (Key × V)) : (dkeys kvs).length = kvs.length := List.length_map ..
/-! ### what the names of a schema are -/
section
variable {ks : List KRow} {fs : List FRow} {us : List URow} {root : Str}
theorem SchOk.ndk (h : SchOk ks fs us root) : (ks.map (·.nm)).Nodup := ((List.nodup_append.mp (List.nodup_append.mp h.nd).2.1)).1
theorem SchOk.ndfu (h : SchOk ks fs us root) : (fs.map (·.nm) ++ us.map (·.nm)).Nodup := ((List.nodup_append.mp (List.nodup_append.mp h.nd).2.1)).2.1
theorem SchOk.ndf (h : SchOk ks fs us root) : (fs.map (·.nm)).Nodup := (List.nodup_append.mp h.ndfu).1
theorem SchOk.ndu (h : SchOk ks fs us root) : (us.map (·.nm)).Nodup := (List.nodup_append.mp h.ndfu).2.1
theorem SchOk.lv (h : SchOk ks fs us root) {z : Str} (m : z ∈ ks.map (·.nm) ++ (fs.map (·.nm) ++ us.map (·.nm))) : z ∉ [("number" : Str), ("text" : Str)] := fun q => (List.nodup_append.mp h.nd).2.2 z q z m rfl
theorem SchOk.kfu (h : SchOk ks fs us root) {z : Str} (m : z ∈ ks.map (·.nm)) : z ∉ fs.map (·.nm) ++ us.map (·.nm) := fun q => (List.nodup_append.mp (List.nodup_append.mp h.nd).2.1).2.2 z m z q rfl
theorem SchOk.fu (h : SchOk ks fs us root) {z : Str} (m : z ∈ fs.map (·.nm)) : z ∉ us.map (·.nm) := fun q => (List.nodup_append.mp h.ndfu).2.2 z m z q rfl
theorem kkv_keys (ks : List KRow) : (kkv ks).map (·.1) = (ks.map (·.nm)).map Sum.inr := keys_map ks (·.nm) (V.ref ·.t)
theorem fkvs_keys (fs : List FRow) : (fkvs fs).map (·.1) = (fs.map (·.nm)).map Sum.inr := keys_map fs (·.nm) (V.ref ·.da)
theorem ukv_keys (us : List URow) : (ukv us).map (·.1) = (us.map (·.nm)).map Sum.inr := keys_map us (·.nm) (V.ref ·.t)
theorem kkv_val (nd : (ks.map (·.nm)).Nodup) {k : KRow} (m : k ∈ ks) : valV (kkv ks) (Sum.inr k.nm) = some (.ref k.t) := valV_map (f := fun k : KRow => k.nm) (g := fun k : KRow => V.ref k.t) nd m
theorem fkvs_val (nd : (fs.map (·.nm)).Nodup) {k : FRow} (m : k ∈ fs) : valV (fkvs fs) (Sum.inr k.nm) = some (.ref k.da) := valV_map (f := fun k : FRow => k.nm) (g := fun k : FRow => V.ref k.da) nd m
theorem ukv_val (nd : (us.map (·.nm)).Nodup) {k : URow} (m : k ∈ us) : valV (ukv us) (Sum.inr k.nm) = some (.ref k.t) := valV_map (f := fun k : URow => k.nm) (g := fun k : URow => V.ref k.t) nd m
theorem kkv_some (nd : (ks.map (·.nm)).Nodup) {z : Str} (m : z ∈ ks.map (·.nm)) : (valV (kkv ks) (Sum.inr z)).isSome = true := by
  obtain ⟨k, hk, rfl⟩ := List.mem_map.mp m
  rw [kkv_val nd hk]
  rfl
theorem fkvs_some (nd : (fs.map (·.nm)).Nodup) {z : Str} (m : z ∈ fs.map (·.nm)) : (valV (fkvs fs) (Sum.inr z)).isSome = true := by
  obtain ⟨k, hk, rfl⟩ := List.mem_map.mp m
  rw [fkvs_val nd hk]
  rfl
theorem kkv_at {i : Nat} {k : Key} {v : V} (e : (kkv ks)[i]? = some (k, v)) : ∃ r, ks[i]? = some r ∧ k = Sum.inr r.nm ∧ v = .ref r.t := by
  unfold kkv at e
  rw [List.getElem?_map] at e
  cases h : ks[i]? with
  | none => rw [h] at e; cases e
  | some f =>
    rw [h] at e
    cases e
    exact ⟨f, rfl, rfl, rfl⟩
end
section
variable {P : Program} {w : World} {K : PySem.W.Frag} {mg : Str → Option Value} {base : Heap}

def spIsFace (K : PySem.W.Frag) : Sp := fun vs H Q _ => ∃ (kt bs : Addr) (f : FRow) (ks : List KRow) (l : List Str), vs = [.str f.nm, .ref f.da, .ref kt, .ref bs] ∧ FldAt H f.da f.fds ∧ FdsOk l f.fds 4 ∧ H kt = some (.dK (kkv ks)) ∧ (∀ k ∈ ks, k.At H) ∧ (ks.map (·.nm)).Nodup ∧ ks.length ≤ 6 ∧
  (∀ k ∈ ks, (k.fds.map (·.1)).Nodup) ∧ (∃ k ∈ ks, f.nm ∈ k.fcs) ∧ (∀ k ∈ ks, f.nm ∈ k.fcs → ∀ x ∈ f.fds, ∃ y ∈ k.fds, y.1 = x.1 ∧ y.2.2 = x.2.2) ∧ SqL K H bs (l.map V.str) ∧ ∀ H', Same H H' → Q (.bl true) H'
theorem ok_is_face {f f1 f2 : Addr} {fd fd1 fd2 : FuncData} (D : Df K mg "is_face" s_is_face f fd ["name", "fields", "kinds", "bases"]) (D_is_fields : Df K mg "is_fields" s_is_fields f1 fd1 ["fields", "most", "bases"])
    (D_has_fields : Df K mg "has_fields" s_has_fields f2 fd2 ["holder", "fields"]) (T : Nms mg) (C : Cst K mg) (G_is_fields : FnOk P w K mg base CX0 6 f1 fd1 ["fields", "most", "bases"] (spIsFields K)) : FnOk P w K mg base CX0 7 f fd ["name", "fields", "kinds", "bases"] (spIsFace K) := by
  have G_has_fields : FnOk P w K mg base CX0 1 f2 fd2 ["holder", "fields"] spHasFields := ok_has_fields D_has_fields T
  obtain ⟨t4, g_M⟩ := C.MOST_FACE_FIELDS
  refine D.F.ok sc_is_face (fun vs H Q E h => ?_) (fun cdv A outer s H vs Q E hr h => ?_)
  · obtain ⟨kt, bs, f, ks, l, rfl, _⟩ := h
    rfl
  · obtain ⟨kt, bs, f, ks, l, rfl, hf, ok, hk, hka, hnd, hl6, hfn, ⟨k0, hk0, hk1⟩, hff, hb, q⟩ := h
    have hu := hu_of hr
    refine ⟨_, (pss_cons (ps_if (pt_not (pt_val (pe_call G_is_fields (hr.mono (by decide)) (by rfl) D_is_fields.g D_is_fields.F.kp D_is_fields.b .nil pass0 (pa_cons (pv 1) (pa_cons (pe_glob (v := .int 4) (by rfl) g_M ⟨_, rfl⟩) (pa_cons (pv 3) pa_nil))))))
       (pss_one (ps_ret pe_bl))
       pss_nil)
      (pss_cons (ps_lock (ps_setLc (i := 4) (own := [("kind", 5)]) (g := (gName 5)) rfl sc_is_face.nd rfl rfl (sw_true rfl rfl rfl (by decide +kernel)) (pi_keys (pv 2)) (blkOk_by (own := [("kind", 5)]) (N := N_is_face) (sc := defScope s_is_face) (by decide +kernel)) (fun _ _ _ _ _ => (pg_name (i := 5) sc_is_face.nd rfl (.inl rfl))) (fun _ _ _ _ _ => pts_one (pt_cmpR (op_in_seqK K) (pv 0) (pe_ix (ix_tupK K) (pe_dget hu (pv 2) (pv 5) (fun _ _ => rfl)) pe_int (fun _ _ => rfl)) (by rfl))) (fun _ _ _ _ _ => (pe_ix (ix_tupK K) (pe_dget hu (pv 2) (pv 5) (fun _ _ => rfl)) pe_int (fun _ _ => rfl)))))
      (pss_one (ps_ret (pe_and (pe_cmpR op_gt (pe_callB call_len_seq (by rfl) T.n_len (by decide +kernel) (pa_cons (pv 4) pa_nil)) pe_int (nomark _)) (pe_one (pe_callB (cr_all rfl) (by rfl) T.n_all (by decide +kernel) (pa_cons (pe_lc (own := [("holder", 6)]) (g := (gName 6)) (tt := tYes) rfl sc_is_face.nd (pi_list (pv 4)) (blkOk_by (own := [("holder", 6)]) (N := N_is_face) (sc := defScope s_is_face) (by decide +kernel)) (fun _ _ _ _ _ => (pg_name (i := 6) sc_is_face.nd rfl (.inl rfl))) (fun _ _ _ _ _ => pts_nil) (fun _ _ _ _ _ => (pe_call G_has_fields (hr.mono (by decide)) (by rfl) D_has_fields.g D_has_fields.F.kp D_has_fields.b .nil pass0 (pa_cons (pv 6) (pa_cons (pv 1) pa_nil))))) pa_nil)))))))), ?_⟩
    refine ⟨.ref f.da, rfl, .ref bs, rfl, f.da, bs, 4, f.fds, l, rfl, hf, ok, by decide, hb, fun H1 s1 => ⟨true, rfl, iteF ?_⟩⟩
    have hk1' := s1 _ _ hk
    -- holders
    refine ⟨kt, .dK (kkv ks), hk1', trivial, fun od => ⟨.ref kt, rfl, kt, od, rfl, .inl ⟨kkv ks, upd_same, fun Da nD => ?_⟩⟩⟩
    have hkl : (kkv ks).length = ks.length := List.length_map ..
    refine lc_it walk_keys (fun i H' => Same (upd H1 kt (.frz od (.dK (kkv ks)))) H' ∧ H' Da = some (.lst (((ks.take i).filter fun k => decide (f.nm ∈ k.fcs)).map fun k => V.ref k.da))) ⟨same_new nD, upd_same⟩ (fun i H _ p => p.1 _ _ upd_same) ?_ ?_
    · rintro i x H2 H3 hi ⟨sm, e2⟩ ⟨rfl, k, v, e, rfl⟩
      obtain ⟨r, er, rfl, rfl⟩ := kkv_at e
      have hm := List.mem_of_getElem? er
      have rk : Rd H3 kt (.dK (kkv ks)) := .inr ⟨od, sm _ _ upd_same⟩
      have hr' : r.At H1 := (hka r hm).same s1
      have ht : SqT K H3 r.t [.ref r.fa, .ref r.da] := .inl (.inl (sm _ _ (by rw [upd_ne (ne_of hr'.t hk1' (by intro z; cases z))]; exact hr'.t)))
      have hfa : SqT K H3 r.fa (r.fcs.map V.str) := .inl (.inl (sm _ _ (by rw [upd_ne (ne_of hr'.f hk1' (by intro z; cases z))]; exact hr'.f)))
      refine ⟨rfl, .str f.nm, rfl, .ref kt, rfl, .str r.nm, rfl, kt, _, rfl, .inl ⟨kkv ks, .inr r.nm, rk, rfl, (kkv_val hnd hm).symm⟩, r.t, _, 0, _, rfl, rfl, ht, atI_nat (j := 0) rfl, r.fa, _, rfl, .inr hfa, rfl, flat_map _, _, rfl, ?_⟩
      have et : ks.take (i + 1) = ks.take i ++ [r] := by rw [List.take_add_one, er]; rfl
      by_cases hin : f.nm ∈ r.fcs
      · show if (if false = true then !inV (.str f.nm) (r.fcs.map V.str) else inV (.str f.nm) (r.fcs.map V.str)) = true then _ else _
        rw [if_neg (show ¬ (false = true) by decide), inV_strs, decide_eq_true hin, if_pos rfl]
        refine ⟨.ref kt, rfl, .str r.nm, rfl, kt, _, rfl, .inl ⟨kkv ks, .inr r.nm, rk, rfl, (kkv_val hnd hm).symm⟩, r.t, _, 1, _, rfl, rfl, ht, atI_nat (j := 1) rfl, _, e2, ?_, same_upd sm nD, ?_⟩
        · rw [List.length_map]
          have h1 := List.length_filter_le (fun k : KRow => decide (f.nm ∈ k.fcs)) (ks.take i)
          have h2 := List.length_take_le i ks
          exact Nat.lt_of_le_of_lt (show _ ≤ 1000 by omega) (by decide)
        · rw [upd_same, et, List.filter_append, List.map_append]
          rw [List.filter_cons_of_pos (by simpa using hin)]
          rfl
      · show if (if false = true then !inV (.str f.nm) (r.fcs.map V.str) else inV (.str f.nm) (r.fcs.map V.str)) = true then _ else _
        rw [if_neg (show ¬ (false = true) by decide), inV_strs, decide_eq_false hin, if_neg (by decide)]
        refine ⟨sm, ?_⟩
        rw [et, List.filter_append, List.filter_cons_of_neg (by simpa using hin), List.filter_nil, List.append_nil]
        exact e2
    · rintro H2 ⟨sm, e2⟩
      rw [hkl, List.take_length] at e2
      refine ⟨sm _ _ upd_same, ?_⟩
      have nDk : Da ≠ kt := fun z => by rw [z, upd_same] at nD; cases nD
      have s2 : Same H1 (upd H2 kt (.dK (kkv ks))) := same_unlock hk1' sm
      have e3 : (upd H2 kt (.dK (kkv ks))) Da = some (.lst ((ks.filter fun k => decide (f.nm ∈ k.fcs)).map fun k => V.ref k.da)) := by rw [upd_ne nDk]; exact e2
      generalize upd H2 kt (.dK (kkv ks)) = H3 at s2 e3
      have hl : 0 < (ks.filter fun k => decide (f.nm ∈ k.fcs)).length := List.length_pos_of_mem (List.mem_filter.mpr ⟨hk0, decide_eq_true hk1⟩)
      have hle := List.length_filter_le (fun k : KRow => decide (f.nm ∈ k.fcs)) ks
      refine ⟨.ref Da, rfl, Da, _, rfl, .inl (SqL.of e3), _, _, rfl, rfl, true, blT (by rw [List.length_map]; omega), iteT ⟨.ref Da, rfl, Da, rfl, ⟨_, SqL.of e3⟩, fun Db nB => ?_⟩⟩
      refine lc_all (walk_list (xs := (ks.filter fun k => decide (f.nm ∈ k.fcs)).map fun k => V.ref k.da)) (fun i x => ∃ k ∈ ks, f.nm ∈ k.fcs ∧ x = .ref k.da) ?_ (fun H sm => SqL.of (sm _ _ e3)) nB (by rw [List.length_map]; omega) (fun _ => rfl) ?_ ?_
      · rintro i H x H' hi ⟨rfl, e⟩
        rw [List.getElem?_map] at e
        cases h : (ks.filter fun k => decide (f.nm ∈ k.fcs))[i]? with
        | none => rw [h] at e; cases e
        | some k =>
          rw [h] at e
          cases e
          have m := List.mem_filter.mp (List.mem_of_getElem? h)
          exact ⟨rfl, k, m.1, of_decide_eq_true m.2, rfl⟩
      · rintro i x H4 Q4 hi ⟨k, hkm, hkf, rfl⟩ sm4 kk
        have sA : Same H H4 := (s1.trans s2).trans sm4
        exact ⟨.ref k.da, rfl, .ref f.da, rfl, k.da, f.da, k.fds, f.fds, l, 4, rfl, (hka k hkm).d.same sA, hf.same sA, hfn k hkm, ok, by decide, hff k hkm hkf, kk⟩
      · intro H4 sm4 e4
        refine ⟨Db, List.replicate ((ks.filter fun k => decide (f.nm ∈ k.fcs)).map fun k => V.ref k.da).length true, rfl, SqL.of e4, ?_⟩
        rw [all_true]
        exact q _ ((s1.trans s2).trans sm4)
end
end NW
namespace NW
open PySem PySem.Spec PyProof.Rows L2
open TL (tl)
open StX (pa_star)
section
variable {P : Program} {w : World} {K : PySem.W.Frag} {mg : Str → Option Value} {base : Heap}

def spCheck (K : PySem.W.Frag) : Sp := fun vs H Q _ => ∃ (kt ft ut : Addr) (ks : List KRow) (fs : List FRow) (us : List URow) (root : Str), vs = [.ref kt, .ref ft, .ref ut] ∧ SchAt H kt ft ut ks fs us ∧ SchOk ks fs us root ∧ ∀ H', Same H H' → Q .non H'
theorem ok_check_names {f f1 : Addr} {fd fd1 : FuncData} (D : Df K mg "check_names" s_check_names f fd ["kinds", "faces", "unions"]) (D_is_table : Df K mg "is_table" s_is_table f1 fd1 ["table", "least", "most", "taken"]) (T : Nms mg) (C : Cst K mg)
    (G_is_table : FnOk P w K mg base CX0 2 f1 fd1 ["table", "least", "most", "taken"] (spIsTable K)) : FnOk P w K mg base CX0 3 f fd ["kinds", "faces", "unions"] (spCheck K) := by
  obtain ⟨t1, g_MOST_KINDS⟩ := C.MOST_KINDS
  obtain ⟨t2, g_MOST_FACES⟩ := C.MOST_FACES
  obtain ⟨t3, g_MOST_UNIONS⟩ := C.MOST_UNIONS
  obtain ⟨la, g_L, hL⟩ := C.LEAVES
  refine D.F.ok sc_check_names (fun vs H Q E h => ?_) (fun cdv A outer s H vs Q E hr h => ?_)
  · obtain ⟨kt, ft, ut, ks, fs, us, root, rfl, _⟩ := h
    rfl
  · obtain ⟨kt, ft, ut, ks, fs, us, root, rfl, S, ok, q⟩ := h
    refine ⟨_, (pss_cons (ps_if (pt_not (pt_val (pe_call G_is_table (hr.mono (by decide)) (by rfl) D_is_table.g D_is_table.F.kp D_is_table.b .nil pass0 (pa_cons (pv 0) (pa_cons pe_int (pa_cons (pe_glob (v := .int 6) (by rfl) g_MOST_KINDS ⟨_, rfl⟩) (pa_cons (pe_glob (v := .ref la) (by rfl) g_L rfl) pa_nil)))))))
       (pss_one ps_never)
       pss_nil)
      (pss_cons (ps_if (pt_not (pt_val (pe_call G_is_table (hr.mono (by decide)) (by rfl) D_is_table.g D_is_table.F.kp D_is_table.b .nil pass0 (pa_cons (pv 1) (pa_cons pe_int (pa_cons (pe_glob (v := .int 3) (by rfl) g_MOST_FACES ⟨_, rfl⟩) (pa_cons (pe_lst (pa_star (pe_glob (v := .ref la) (by rfl) g_L rfl) (pa_starD rfl (pv 0) pa_nil))) pa_nil)))))))
       (pss_one ps_never)
       pss_nil)
      (pss_one (ps_if (pt_not (pt_val (pe_call G_is_table (hr.mono (by decide)) (by rfl) D_is_table.g D_is_table.F.kp D_is_table.b .nil pass0 (pa_cons (pv 2) (pa_cons pe_int (pa_cons (pe_glob (v := .int 3) (by rfl) g_MOST_UNIONS ⟨_, rfl⟩) (pa_cons (pe_lst (pa_star (pe_glob (v := .ref la) (by rfl) g_L rfl) (pa_starD rfl (pv 0) (pa_starD rfl (pv 1) pa_nil)))) pa_nil)))))))
       (pss_one ps_never)
       pss_nil)))), ?_⟩
    refine ⟨.ref kt, rfl, kt, la, kkv ks, ks.map (·.nm), LV, 1, 6, rfl, S.kd, kkv_keys ks, fun z hz => ⟨?_, ok.lv (List.mem_append_left _ hz)⟩, ?_, ?_, ?_, .inr (hL H), fun H1 s1 => ⟨true, rfl, iteF ?_⟩⟩
    · obtain ⟨k, hk, rfl⟩ := List.mem_map.mp hz
      exact ok.nk k hk
    · rw [List.length_map]; have := ok.k0; omega
    · rw [List.length_map]; have := ok.k1; omega
    · rw [List.length_map]; have := ok.k1; omega
    have S1 := S.same s1
    refine ⟨.ref ft, rfl, la, _, rfl, .inl (hL H1), .ref kt, rfl, kt, kkv ks, rfl, .inl S1.kd, ?_, fun p np => ?_⟩
    · show ([V.str "number", V.str "text"] ++ (dkeys (kkv ks) ++ [])).length ≤ sizeLine
      rw [List.length_append, List.length_append, dkeys_len, show (kkv ks).length = ks.length from List.length_map ..]
      exact Nat.le_trans (show 2 + (ks.length + 0) ≤ 1000 by have := ok.k1; omega) (by decide)
    have el : ([V.str "number", V.str "text"] ++ (dkeys (kkv ks) ++ [])) = (LV ++ ks.map (fun k : KRow => k.nm)).map V.str := by
      rw [dkeys_k, List.append_nil, List.map_append]
      rfl
    refine ⟨ft, p, fkvs fs, fs.map (·.nm), LV ++ ks.map (fun k : KRow => k.nm), 0, 3, rfl, by rw [upd_ne (ne_of_none S1.fd np)]; exact S1.fd, fkvs_keys fs, fun z hz => ⟨?_, ?_⟩, Int.natCast_nonneg _, ?_, ?_, .inl (SqL.of ?_), fun H2 s2 => ⟨true, rfl, iteF ?_⟩⟩
    · obtain ⟨k, hk, rfl⟩ := List.mem_map.mp hz
      exact ok.nf k hk
    · intro m
      rcases List.mem_append.mp m with m | m
      · exact ok.lv (List.mem_append_right _ (List.mem_append_left _ hz)) m
      · exact ok.kfu m (List.mem_append_left _ hz)
    · rw [List.length_map]; have := ok.f1; omega
    · rw [List.length_map]; have := ok.f1; omega
    · rw [← el]
      exact upd_same
    have sm2 : Same H H2 := s1.trans ((same_new np).trans s2)
    have S2 := S.same sm2
    refine ⟨.ref ut, rfl, la, _, rfl, .inl (hL H2), .ref kt, rfl, kt, kkv ks, rfl, .inl S2.kd, .ref ft, rfl, ft, fkvs fs, rfl, .inl S2.fd, ?_, fun p2 np2 => ?_⟩
    · show ([V.str "number", V.str "text"] ++ (dkeys (kkv ks) ++ (dkeys (fkvs fs) ++ []))).length ≤ sizeLine
      rw [List.length_append, List.length_append, List.length_append, dkeys_len, dkeys_len, show (kkv ks).length = ks.length from List.length_map .., show (fkvs fs).length = fs.length from List.length_map ..]
      exact Nat.le_trans (show 2 + (ks.length + (fs.length + 0)) ≤ 1000 by have := ok.k1; have := ok.f1; omega) (by decide)
    have el2 : ([V.str "number", V.str "text"] ++ (dkeys (kkv ks) ++ (dkeys (fkvs fs) ++ []))) = (LV ++ (ks.map (fun k : KRow => k.nm) ++ fs.map (fun k : FRow => k.nm))).map V.str := by
      rw [dkeys_k, dkeys_f, List.append_nil, List.map_append, List.map_append]
      rfl
    refine ⟨ut, p2, ukv us, us.map (·.nm), LV ++ (ks.map (fun k : KRow => k.nm) ++ fs.map (fun k : FRow => k.nm)), 0, 3, rfl, by rw [upd_ne (ne_of_none S2.ud np2)]; exact S2.ud, ukv_keys us, fun z hz => ⟨?_, ?_⟩, Int.natCast_nonneg _, ?_, ?_, .inl (SqL.of ?_), fun H3 s3 => ⟨true, rfl, iteF ?_⟩⟩
    · obtain ⟨k, hk, rfl⟩ := List.mem_map.mp hz
      exact ok.nu k hk
    · intro m
      rcases List.mem_append.mp m with m | m
      · exact ok.lv (List.mem_append_right _ (List.mem_append_right _ hz)) m
      · rcases List.mem_append.mp m with m | m
        · exact ok.kfu m (List.mem_append_right _ hz)
        · exact ok.fu m hz
    · rw [List.length_map]; have := ok.u1; omega
    · rw [List.length_map]; have := ok.u1; omega
    · rw [← el2]
      exact upd_same
    exact q _ (sm2.trans ((same_new np2).trans s3))
def spCheckSchema (K : PySem.W.Frag) : Sp := fun vs H Q _ => ∃ (kt ft ut : Addr) (ks : List KRow) (fs : List FRow) (us : List URow) (root : Str), vs = [.ref kt, .ref ft, .ref ut, .str root] ∧ SchAt H kt ft ut ks fs us ∧ SchOk ks fs us root ∧ ∀ H', Same H H' → Q .non H'
theorem ok_check_schema {f f1 f2 f3 f4 f5 : Addr} {fd fd1 fd2 fd3 fd4 fd5 : FuncData} (D : Df K mg "check_schema" s_check_schema f fd ["kinds", "faces", "unions", "root"]) (D_check_names : Df K mg "check_names" s_check_names f1 fd1 ["kinds", "faces", "unions"])
    (D_is_kind : Df K mg "is_kind" s_is_kind f2 fd2 ["worth", "faces", "bases"]) (D_is_face : Df K mg "is_face" s_is_face f3 fd3 ["name", "fields", "kinds", "bases"]) (D_is_union : Df K mg "is_union" s_is_union f4 fd4 ["worth", "kinds"]) (D_is_key : Df K mg "is_key" s_is_key f5 fd5 ["name", "table"])
    (T : Nms mg) (C : Cst K mg) (G_check_names : FnOk P w K mg base CX0 3 f1 fd1 ["kinds", "faces", "unions"] (spCheck K)) (G_is_kind : FnOk P w K mg base CX0 7 f2 fd2 ["worth", "faces", "bases"] (spIsKind K))
    (G_is_face : FnOk P w K mg base CX0 7 f3 fd3 ["name", "fields", "kinds", "bases"] (spIsFace K)) (G_is_union : FnOk P w K mg base CX0 3 f4 fd4 ["worth", "kinds"] spIsUnion) (G_is_key : FnOk P w K mg base CX0 1 f5 fd5 ["name", "table"] (spIsKey K)) :
    FnOk P w K mg base CX0 8 f fd ["kinds", "faces", "unions", "root"] (spCheckSchema K) := by
  obtain ⟨la, g_L, hL⟩ := C.LEAVES
  refine D.F.ok sc_check_schema (fun vs H Q E h => ?_) (fun cdv A outer s H vs Q E hr h => ?_)
  · obtain ⟨kt, ft, ut, ks, fs, us, root, rfl, _⟩ := h
    rfl
  · obtain ⟨kt, ft, ut, ks, fs, us, root, rfl, S, ok, q⟩ := h
    have hu := hu_of hr
    refine ⟨_, (pss_cons (ps_expr (pe_call G_check_names (hr.mono (by decide)) (by rfl) D_check_names.g D_check_names.F.kp D_check_names.b .nil pass0 (pa_cons (pv 0) (pa_cons (pv 1) (pa_cons (pv 2) pa_nil)))))
      (pss_cons (ps_set (i := 4) sc_check_schema.nd rfl (.inl rfl) (pe_lst (pa_star (pe_glob (v := .ref la) (by rfl) g_L rfl) (pa_starD rfl (pv 0) (pa_starD rfl (pv 1) (pa_starD rfl (pv 2) pa_nil))))))
      (pss_cons (ps_for PassesOwn.never rfl (pi_list (pe_callB (call_sortedD rfl) (by rfl) T.n_sorted (by decide +kernel) (pa_cons (pv 0) pa_nil))) (pg_name (i := 5) sc_check_schema.nd rfl (.inl rfl))
       (pss_one (ps_if (pt_not (pt_val (pe_call G_is_kind (hr.mono (by decide)) (by rfl) D_is_kind.g D_is_kind.F.kp D_is_kind.b .nil pass0 (pa_cons (pe_dget hu (pv 0) (pv 5) (fun _ _ => rfl)) (pa_cons (pv 1) (pa_cons (pv 4) pa_nil))))))
         (pss_one ps_never)
         pss_nil)))
      (pss_cons (ps_for PassesOwn.never rfl (pi_list (pe_callB (call_sortedD rfl) (by rfl) T.n_sorted (by decide +kernel) (pa_cons (pv 1) pa_nil))) (pg_name (i := 5) sc_check_schema.nd rfl (.inl rfl))
       (pss_one (ps_if (pt_not (pt_val (pe_call G_is_face (hr.mono (by decide)) (by rfl) D_is_face.g D_is_face.F.kp D_is_face.b .nil pass0 (pa_cons (pv 5) (pa_cons (pe_dget hu (pv 1) (pv 5) (fun _ _ => rfl)) (pa_cons (pv 0) (pa_cons (pv 4) pa_nil)))))))
         (pss_one ps_never)
         pss_nil)))
      (pss_cons (ps_for PassesOwn.never rfl (pi_list (pe_callB (call_sortedD rfl) (by rfl) T.n_sorted (by decide +kernel) (pa_cons (pv 2) pa_nil))) (pg_name (i := 5) sc_check_schema.nd rfl (.inl rfl))
       (pss_one (ps_if (pt_not (pt_val (pe_call G_is_union (hr.mono (by decide)) (by rfl) D_is_union.g D_is_union.F.kp D_is_union.b .nil pass0 (pa_cons (pe_dget hu (pv 2) (pv 5) (fun _ _ => rfl)) (pa_cons (pv 0) pa_nil)))))
         (pss_one ps_never)
         pss_nil)))
      (pss_one (ps_if (pt_not (pt_val (pe_call G_is_key (hr.mono (by decide)) (by rfl) D_is_key.g D_is_key.F.kp D_is_key.b .nil pass0 (pa_cons (pv 3) (pa_cons (pv 0) pa_nil)))))
       (pss_one ps_never)
       pss_nil))))))), ?_⟩
    refine ⟨.ref kt, rfl, .ref ft, rfl, .ref ut, rfl, kt, ft, ut, ks, fs, us, root, rfl, S, ok, fun H1 s1 => ?_⟩
    have S1 := S.same s1
    have k1 := ok.k1
    have f1' := ok.f1
    have u1' := ok.u1
    refine ⟨la, _, rfl, .inl (hL H1), .ref kt, rfl, kt, kkv ks, rfl, .inl S1.kd, .ref ft, rfl, ft, fkvs fs, rfl, .inl S1.fd, .ref ut, rfl, ut, ukv us, rfl, .inl S1.ud, ?_, fun bs nb => ?_⟩
    · show ([V.str "number", V.str "text"] ++ (dkeys (kkv ks) ++ (dkeys (fkvs fs) ++ (dkeys (ukv us) ++ [])))).length ≤ sizeLine
      rw [List.length_append, List.length_append, List.length_append, List.length_append, dkeys_len, dkeys_len, dkeys_len, show (kkv ks).length = ks.length from List.length_map .., show (fkvs fs).length = fs.length from List.length_map .., show (ukv us).length = us.length from List.length_map ..]
      exact Nat.le_trans (show 2 + (ks.length + (fs.length + (us.length + 0))) ≤ 1000 by omega) (by decide)
    have el : ([V.str "number", V.str "text"] ++ (dkeys (kkv ks) ++ (dkeys (fkvs fs) ++ (dkeys (ukv us) ++ [])))) = (bsOf ks fs us).map V.str := by
      rw [dkeys_k, dkeys_f, dkeys_u]
      unfold bsOf
      rw [List.append_nil, List.map_append, List.map_append, List.map_append]
      rfl
    have sm2 : Same H (upd H1 bs (.lst ([V.str "number", V.str "text"] ++ (dkeys (kkv ks) ++ (dkeys (fkvs fs) ++ (dkeys (ukv us) ++ [])))))) := s1.trans (same_new nb)
    have hb2 : (upd H1 bs (.lst ([V.str "number", V.str "text"] ++ (dkeys (kkv ks) ++ (dkeys (fkvs fs) ++ (dkeys (ukv us) ++ [])))))) bs = some (.lst ((bsOf ks fs us).map V.str)) := by rw [← el]; exact upd_same
    generalize upd H1 bs (.lst ([V.str "number", V.str "text"] ++ (dkeys (kkv ks) ++ (dkeys (fkvs fs) ++ (dkeys (ukv us) ++ []))))) = H2 at sm2 hb2
    -- kinds
    refine ⟨.ref kt, rfl, kt, kkv ks, ks.map (·.nm), rfl, .inl (sm2 _ _ S.kd), kkv_keys ks, by rw [List.length_map]; omega, fun ys p pm so np => ⟨p, rfl, ⟨_, SqL.of upd_same⟩, ?_⟩⟩
    refine for_list (xs := ys.map V.str) (fun i σ H' => ∃ y, σ = [some (.ref kt), some (.ref ft), some (.ref ut), some (.str root), some (.ref bs), y] ∧ Same (upd H2 p (.lst (ys.map V.str))) H') ⟨none, rfl, Same.refl _⟩ (fun i σ H' _ h => by obtain ⟨y, _, sm⟩ := h; exact SqL.of (sm _ _ upd_same)) ?_ ?_
    · rintro i x σ H3 ex ⟨y, rfl, sm⟩
      obtain ⟨z, hz, rfl⟩ := List.mem_map.mp (List.mem_of_getElem? ex)
      obtain ⟨k, hk, rfl⟩ := List.mem_map.mp (pm.mem_iff.mp hz)
      have smA : Same H H3 := (sm2.trans (same_new np)).trans sm
      have S3 := S.same smA
      refine ⟨.ref kt, rfl, .str k.nm, rfl, kt, _, rfl, .inl ⟨kkv ks, .inr k.nm, .inl S3.kd, rfl, (kkv_val ok.ndk hk).symm⟩, .ref ft, rfl, .ref bs, rfl, k, ft, bs, fkvs fs, bsOf ks fs us, rfl, S3.ka k hk, S3.fd, (ok.kf k hk).1, by have := (ok.kf k hk).2.2; omega, fun z hz => fkvs_some ok.ndf ((ok.kf k hk).2.1 z hz), ok.kd k hk, SqL.of (((same_new np).trans sm) _ _ hb2), fun H4 s4 => ⟨true, rfl, iteF ⟨_, rfl, sm.trans s4⟩⟩⟩
    · rintro σ H3 ⟨y, rfl, sm⟩
      have sm3 : Same H2 H3 := (same_new np).trans sm
      have S3 := S.same (sm2.trans sm3)
      -- faces
      refine ⟨.ref ft, rfl, ft, fkvs fs, fs.map (·.nm), rfl, .inl S3.fd, fkvs_keys fs, by rw [List.length_map]; omega, fun ys p pm so np => ⟨p, rfl, ⟨_, SqL.of upd_same⟩, ?_⟩⟩
      refine for_list (xs := ys.map V.str) (fun i σ H' => ∃ y, σ = [some (.ref kt), some (.ref ft), some (.ref ut), some (.str root), some (.ref bs), y] ∧ Same (upd H3 p (.lst (ys.map V.str))) H') ⟨y, rfl, Same.refl _⟩ (fun i σ H' _ h => by obtain ⟨y, _, sm⟩ := h; exact SqL.of (sm _ _ upd_same)) ?_ ?_
      · rintro i x σ H4 ex ⟨y, rfl, sm⟩
        obtain ⟨z, hz, rfl⟩ := List.mem_map.mp (List.mem_of_getElem? ex)
        obtain ⟨k, hk, rfl⟩ := List.mem_map.mp (pm.mem_iff.mp hz)
        have smA : Same H H4 := ((sm2.trans sm3).trans (same_new np)).trans sm
        have S4 := S.same smA
        refine ⟨.str k.nm, rfl, .ref ft, rfl, .str k.nm, rfl, ft, _, rfl, .inl ⟨fkvs fs, .inr k.nm, .inl S4.fd, rfl, (fkvs_val ok.ndf hk).symm⟩, .ref kt, rfl, .ref bs, rfl, kt, bs, k, ks, bsOf ks fs us, rfl, S4.fa k hk, ok.fd k hk, S4.kd, S4.ka, ok.ndk, ok.k1, fun k' hk' => (ok.kd k' hk').nd, ok.fk k hk, ok.ff k hk, SqL.of (((sm3.trans (same_new np)).trans sm) _ _ hb2), fun H5 s5 => ⟨true, rfl, iteF ⟨_, rfl, sm.trans s5⟩⟩⟩
      · rintro σ H4 ⟨y, rfl, sm⟩
        have sm4 : Same H3 H4 := (same_new np).trans sm
        have S4 := S.same ((sm2.trans sm3).trans sm4)
        -- unions
        refine ⟨.ref ut, rfl, ut, ukv us, us.map (·.nm), rfl, .inl S4.ud, ukv_keys us, by rw [List.length_map]; omega, fun ys p pm so np => ⟨p, rfl, ⟨_, SqL.of upd_same⟩, ?_⟩⟩
        refine for_list (xs := ys.map V.str) (fun i σ H' => ∃ y, σ = [some (.ref kt), some (.ref ft), some (.ref ut), some (.str root), some (.ref bs), y] ∧ Same (upd H4 p (.lst (ys.map V.str))) H') ⟨y, rfl, Same.refl _⟩ (fun i σ H' _ h => by obtain ⟨y, _, sm⟩ := h; exact SqL.of (sm _ _ upd_same)) ?_ ?_
        · rintro i x σ H5 ex ⟨y, rfl, sm⟩
          obtain ⟨z, hz, rfl⟩ := List.mem_map.mp (List.mem_of_getElem? ex)
          obtain ⟨k, hk, rfl⟩ := List.mem_map.mp (pm.mem_iff.mp hz)
          have smA : Same H H5 := (((sm2.trans sm3).trans sm4).trans (same_new np)).trans sm
          have S5 := S.same smA
          obtain ⟨n1, n2, n3, n4⟩ := ok.ud k hk
          refine ⟨.ref ut, rfl, .str k.nm, rfl, ut, _, rfl, .inl ⟨ukv us, .inr k.nm, .inl S5.ud, rfl, (ukv_val ok.ndu hk).symm⟩, .ref kt, rfl, k.t, kt, kkv ks, k.ms, rfl, S5.ua k hk, S5.kd, n1, n2, n3, fun z hz => kkv_some ok.ndk (n4 z hz), fun H6 s6 => ⟨true, rfl, iteF ⟨_, rfl, sm.trans s6⟩⟩⟩
        · rintro σ H5 ⟨y, rfl, sm⟩
          have smA : Same H H5 := (((sm2.trans sm3).trans sm4).trans (same_new np)).trans sm
          have S5 := S.same smA
          refine ⟨.str root, rfl, .ref kt, rfl, .str root, kt, rfl, .inl ⟨root, rfl, .inr ⟨kkv ks, .inl S5.kd, true, ?_, iteF (q _ smA)⟩⟩⟩
          rw [kkv_some ok.ndk ok.rt]
end
end NW
namespace NW
open PySem PySem.Spec PyProof.Rows L2
section
variable {X : Cx}
/-- sorted of a tuple of texts -/
def rSortedTup (K : PySem.W.Frag) : List V → Hp → VK → Prop := fun xs H Q => ∃ (a : Addr) (ks : List Str), xs = [.ref a] ∧ SqT K H a (ks.map V.str) ∧ ks.length < 64 ∧
  ∀ ys p, ys.Perm ks → sortedS ys = true → H p = none → Q (.ref p) (upd H p (.lst (ys.map V.str)))
theorem strs_vals : ∀ {ks : List Str} {us : List Value}, Vals (ks.map V.str) us → StrsAre us ks
  | [], _, .nil => .nil
  | k :: ks, _, .cons ⟨t, e⟩ r => by
    subst e
    exact .cons k t (strs_vals r)
theorem call_sortedTup (K : PySem.W.Frag) (hK : X.K = K := by rfl) : CallR X (.builtin "sorted") (rSortedTup K) := by
  subst hK
  intro pins s σ H xs us Q I r q
  obtain ⟨a, ks, rfl, ha, few, q⟩ := q
  rw [Vals.ref1 r]
  obtain ⟨its, rv, pl, big⟩ := I.tuple ha
  obtain ⟨o, ho, hc, n, hd⟩ := pl
  have hlen : its.length = ks.length := by
    have e := rv.length
    rw [List.length_map] at e
    exact e.symm
  have hS : StrsAre its ks := strs_vals rv
  refine Calls.call_function_entry PyProof.Rows.kind_sorted PyProof.Rows.plain_sorted PyProof.Rows.entry_sorted (PyProof.Rows.args_sorted1 _) ?_
  unfold Builtin.«sorted»
  refine wpAny_bind (m := checkCount "sorted" 1 1 _) (wpAny_pure ?_)
  have room : its.toArray.size ≤ sizeLine := by rw [List.size_toArray, hlen, sizeLine_eq]; omega
  refine wpAny_bind (wpAny_collect_seq a (.inr rfl) ho hc hd (fun g kept => ?_) room)
  have el : its.toArray.toList = its := by simp
  rw [el]
  have J : Inv X pins σ H { s with heap := g } := I.kept (t' := s.toks) kept
  refine wpAny_bind (wpAny_newList ?_ (by rw [hlen, sizeLine_eq]; omega))
  have at_ : (g.push (seqObj "list" its.toArray 0)).get? g.objs.size = some (seqObj "list" its.toArray 0) := Heap.get?_push_size _ rfl
  show wpAny _ _ _ _ _ { s with heap := g.push (seqObj "list" its.toArray 0) }
  refine wpAny_bind (wpAny_holding (wpAny_call_entry PyProof.Rows.slot_list_sort ⟨_, at_, rfl⟩ PyProof.Rows.entry_list_sort (list_sort_treeK strKind_oneLt (s := { s with heap := g.push (seqObj "list" its.toArray 0) }) at_ hS.keysOf
    (fun v₁ v₂ rest e => keyKind_strs (by rw [← e]; exact hS)) (by rw [hlen]; exact few) fun st' hp hs => ⟨_, rfl, ?_⟩) (PyProof.Rows.args_list_sort _)))
  obtain ⟨ys, z1, z2, z3⟩ := sorted_out_str hS hp hs
  obtain ⟨e', he'⟩ := PyProof.Rows.sortedHeap_at (vs := its) (out := (arrOf st').map (·.2)) at_
  have fits : (ys.map V.str).length ≤ sizeLine := by
    rw [List.length_map, z2.length_eq, sizeLine_eq]
    omega
  refine wpAny_pure ⟨_, rfl, .ref g.objs.size, upd H g.objs.size (.lst (ys.map V.str)), J.laid (t' := s.toks) (fun b u e => ?_) (Nat.le_refl _) (show ObjOk X.prog X.w _ _ _ (.lst (ys.map V.str)) from ⟨fits, ((arrOf st').map (·.2)).toList, e', vals_of_strs z1, by rw [Array.toArray_toList]; exact he'⟩), rfl, q ys _ z2 z3 (J.hok.fresh (Nat.le_refl _))⟩
  have below : b < g.objs.size := Heap.lt_size e
  rw [PyProof.Rows.sortedHeap_old (Nat.ne_of_lt below) (by rw [size_push']; exact Nat.lt_succ_of_lt below)]
  exact Heap.get?_push_of_some _ e
/-- within a block -/
theorem cr_sortedSK (K : PySem.W.Frag) (h : X.K = K := by rfl) : CallR X (.builtin "sorted") (rSortedS K) := h ▸ cr_sortedS
theorem call_tuple_ofK (K : PySem.W.Frag) (h : X.K = K := by rfl) : CallR X (.type "tuple") (fun vs H Q => ∃ (p : Addr) (xs : List V), vs = [.ref p] ∧ ((SqL K H p xs ∧ ∀ l, H l = none → Q (.ref l) (upd H l (.tup xs))) ∨ (SqT K H p xs ∧ Q (.ref p) H))) := by
  subst h
  intro pins s σ H vs us Q I r q
  exact call_tuple_of pins s σ H vs us Q I r q
end
/-- a dict comprehension over anything that is walked: Pv by the turn and the heap -/
theorem dc_it {J : It} {n : Nat} {G : Hp → Prop} {Y : Nat → Hp → V → Hp → Prop} (w : Walk J n G Y) {g : TG} {tt : TT} {tk tv : TE} {vs : List Nat} {σ : L2.St} {H1 : Hp} {Da : Addr} {Qd : Hp → Prop} (Pv : Nat → Hp → Prop)
    (start : Pv 0 (upd H1 Da (.dK []))) (hG : ∀ i H, i ≤ n → Pv i H → G H)
    (turn : ∀ i x H H', i < n → Pv i H → Y i H x H' → g x (wipe σ vs) H' fun σ2 H2 => wipe σ2 vs = wipe σ vs ∧ tt σ2 H2 fun b H3 =>
      if b = true then tk σ2 H3 fun y H4 => tv σ2 H4 fun z H5 => ∃ kvs k, y = kV k ∧ H5 Da = some (.dK kvs) ∧ kvs.length < sizeLine ∧ Pv (i + 1) (upd H5 Da (.dK (putK kvs k z))) else Pv (i + 1) H3) (fin : ∀ H, Pv n H → Qd H) :
    ∃ W : Nat → Nat → Hp → Prop, (∃ m, W 0 m (upd H1 Da (.dK []))) ∧ ∀ i m H, W i m H →
      (J.stop i H ∧ Qd H) ∨ (J.go i H ∧ ∃ Nx : Hp → Prop, (∀ H', Nx H' → ∃ m', m' < m ∧ W (i + 1) m' H') ∧ ∀ x H', J.yld i H x H' → g x (wipe σ vs) H' fun σ2 H2 => wipe σ2 vs = wipe σ vs ∧ tt σ2 H2 fun b H3 =>
        if b = true then tk σ2 H3 fun y H4 => tv σ2 H4 fun z H5 => ∃ kvs k, y = kV k ∧ H5 Da = some (.dK kvs) ∧ kvs.length < sizeLine ∧ Nx (upd H5 Da (.dK (putK kvs k z))) else Nx H3) := by
  refine ⟨fun i m H => i + m = n ∧ Pv i H, ⟨n, Nat.zero_add n, start⟩, fun i m H h => ?_⟩
  obtain ⟨e, p⟩ := h
  have q := hG i H (by omega) p
  cases m with
  | zero =>
    have e2 : i = n := by omega
    subst e2
    exact .inl ⟨w.stops H q, fin H p⟩
  | succ m => exact .inr ⟨w.goes i H (by omega) q, Pv (i + 1), fun H' p' => ⟨m, Nat.lt_succ_self m, by omega, p'⟩, fun x H' y => turn i x H H' (by omega) p (w.yields i H x H' (by omega) q y)⟩
end NW
namespace NW
open PySem PySem.Spec PyProof.Rows L2
/-- the else of an if, once for all ways to it -/
theorem cutE {c : TT} {t u : TS} {D : Ends} {σ : L2.St} {H : Hp} (G : L2.St → Hp → Prop) (he : ∀ σ' H', G σ' H' → u D σ' H') (h : (∀ σ' H', G σ' H' → u D σ' H') → tIfS c t u D σ H) : tIfS c t u D σ H := h he
end NW
namespace NW
open PySem PySem.Spec PyProof.Rows L2
open TL (tl)
open StX (pa_star)
abbrev s_Schema_init : Stmt := inClass (topS 69) 0
abbrev N_Schema_init : List Str := ["self", "kinds", "faces", "unions", "root", "name"]
theorem sc_Schema_init : FnScope N_Schema_init ["self", "kinds", "faces", "unions", "root"] (defScope s_Schema_init) := ⟨rfl, rfl, rfl, by decide +kernel, rfl, by decide +kernel, by decide +kernel⟩
/-! ### a Schema in the heap -/
structure ClT (K : PySem.W.Frag) (C : Addr) : Prop where
  cl : Cls K C
  nk : NoAttr K C "kind_table"
  nf : NoAttr K C "face_table"
  nu : NoAttr K C "union_table"
  nr : NoAttr K C "root"
theorem n1 : ¬ (("face_table" : Str) = "kind_table") := by decide +kernel
theorem n2 : ¬ (("union_table" : Str) = "kind_table") := by decide +kernel
theorem n3 : ¬ (("root" : Str) = "kind_table") := by decide +kernel
theorem n4 : ¬ (("union_table" : Str) = "face_table") := by decide +kernel
theorem n5 : ¬ (("root" : Str) = "face_table") := by decide +kernel
theorem n6 : ¬ (("root" : Str) = "union_table") := by decide +kernel
def pfs (a b c : Addr) (z : Str) : List (Str × V) := [("kind_table", V.ref a), ("face_table", V.ref b), ("union_table", V.ref c), ("root", V.str z)]
theorem pf1 (a : Addr) : putF "kind_table" (.ref a) [] = [(("kind_table" : Str), V.ref a)] := rfl
theorem pf2 (a b : Addr) : putF "face_table" (.ref b) [(("kind_table" : Str), V.ref a)] = [(("kind_table" : Str), V.ref a), ("face_table", V.ref b)] := by
  show (if ("kind_table" : Str) = "face_table" then _ else _) = _
  rw [if_neg (fun e => n1 e.symm)]
  rfl
theorem pf3 (a b c : Addr) : putF "union_table" (.ref c) [(("kind_table" : Str), V.ref a), ("face_table", V.ref b)] = [(("kind_table" : Str), V.ref a), ("face_table", V.ref b), ("union_table", V.ref c)] := by
  show (if ("kind_table" : Str) = "union_table" then _ else _ :: (if ("face_table" : Str) = "union_table" then _ else _)) = _
  rw [if_neg (fun e => n2 e.symm), if_neg (fun e => n4 e.symm)]
  rfl
theorem pf4 (a b c : Addr) (z : Str) : putF "root" (.str z) [(("kind_table" : Str), V.ref a), ("face_table", V.ref b), ("union_table", V.ref c)] = pfs a b c z := by
  show (if ("kind_table" : Str) = "root" then _ else _ :: (if ("face_table" : Str) = "root" then _ else _ :: (if ("union_table" : Str) = "root" then _ else _))) = _
  rw [if_neg (fun e => n3 e.symm), if_neg (fun e => n5 e.symm), if_neg (fun e => n6 e.symm)]
  rfl
theorem lkk (a b c : Addr) (z : Str) : (pfs a b c z).lookup ("kind_table" : Str) = some (.ref a) := by simp [pfs, List.lookup]
theorem lkf (a b c : Addr) (z : Str) : (pfs a b c z).lookup ("face_table" : Str) = some (.ref b) := by
  have h1 : (("face_table" : Str) == "kind_table") = false := beq_eq_false_iff_ne.mpr n1
  simp [pfs, List.lookup, h1]
theorem lku (a b c : Addr) (z : Str) : (pfs a b c z).lookup ("union_table" : Str) = some (.ref c) := by
  have h1 : (("union_table" : Str) == "kind_table") = false := beq_eq_false_iff_ne.mpr n2
  have h2 : (("union_table" : Str) == "face_table") = false := beq_eq_false_iff_ne.mpr n4
  simp [pfs, List.lookup, h1, h2]
theorem lkr (a b c : Addr) (z : Str) : (pfs a b c z).lookup ("root" : Str) = some (.str z) := by
  have h1 : (("root" : Str) == "kind_table") = false := beq_eq_false_iff_ne.mpr n3
  have h2 : (("root" : Str) == "face_table") = false := beq_eq_false_iff_ne.mpr n5
  have h3 : (("root" : Str) == "union_table") = false := beq_eq_false_iff_ne.mpr n6
  simp [pfs, List.lookup, h1, h2, h3]
theorem lkn (a b c : Addr) (z : Str) {m : Str} (h1 : ¬ m = "kind_table") (h2 : ¬ m = "face_table") (h3 : ¬ m = "union_table") (h4 : ¬ m = "root") : (pfs a b c z).lookup m = none := by
  have e1 := beq_eq_false_iff_ne.mpr h1
  have e2 := beq_eq_false_iff_ne.mpr h2
  have e3 := beq_eq_false_iff_ne.mpr h3
  have e4 := beq_eq_false_iff_ne.mpr h4
  simp [pfs, List.lookup, e1, e2, e3, e4]
/-- what the made tables hold of what was handed in -/
def RelK (ks ks' : List KRow) : Prop := ks'.length = ks.length ∧ ∀ (i : Nat) (k k' : KRow), ks[i]? = some k → ks'[i]? = some k' → k'.nm = k.nm ∧ k'.fcs.Perm k.fcs ∧ sortedS k'.fcs = true ∧ k'.fds = k.fds
def RelF (ks ks' : List FRow) : Prop := ks'.length = ks.length ∧ ∀ (i : Nat) (k k' : FRow), ks[i]? = some k → ks'[i]? = some k' → k'.nm = k.nm ∧ k'.fds = k.fds
def RelU (ks ks' : List URow) : Prop := ks'.length = ks.length ∧ ∀ (i : Nat) (k k' : URow), ks[i]? = some k → ks'[i]? = some k' → k'.nm = k.nm ∧ k'.ms.Perm k.ms ∧ sortedS k'.ms = true
def BuiltAt (C : Addr) (H : Hp) (x : Addr) (ks : List KRow) (fs : List FRow) (us : List URow) (root : Str) : Prop :=
  ∃ dx kt ft ut ks' fs' us', H x = some (.ins C dx (pfs kt ft ut root)) ∧ SchAt H kt ft ut ks' fs' us' ∧ RelK ks ks' ∧ RelF fs fs' ∧ RelU us us'
theorem rel_snoc {α : Type} {ks rs : List α} {R : α → α → Prop} {i : Nat} {k r : α} (e : ks[i]? = some k) (hl : rs.length = i) (h : ∀ (j : Nat) (a b : α), ks[j]? = some a → rs[j]? = some b → R a b) (hr : R k r) : ∀ (j : Nat) (a b : α), ks[j]? = some a → (rs ++ [r])[j]? = some b → R a b := by
  intro j a b ea eb
  by_cases hj : j < rs.length
  · rw [List.getElem?_append_left hj] at eb
    exact h j a b ea eb
  · have hj2 : j = i := by
      have := (List.getElem?_eq_some_iff.mp eb).1
      rw [List.length_append, List.length_singleton] at this
      omega
    subst hj2
    rw [List.getElem?_append_right (by omega), hl, Nat.sub_self] at eb
    cases eb
    rw [e] at ea
    cases ea
    exact hr
theorem rel_names {α : Type} {f : α → Str} {ks rs : List α} {i : Nat} (hl : rs.length = i) (hi : i ≤ ks.length) (h : ∀ (j : Nat) (a b : α), ks[j]? = some a → rs[j]? = some b → f b = f a) : rs.map f = (ks.take i).map f := by
  refine List.ext_getElem? fun j => ?_
  rw [List.getElem?_map, List.getElem?_map]
  by_cases hj : j < i
  · have h1 : j < rs.length := by omega
    have h2 : j < ks.length := by omega
    rw [List.getElem?_eq_getElem h1, List.getElem?_take_of_lt hj, List.getElem?_eq_getElem h2]
    show some (f rs[j]) = some (f ks[j])
    rw [h j _ _ (List.getElem?_eq_getElem h2) (List.getElem?_eq_getElem h1)]
  · rw [List.getElem?_eq_none (by omega), List.getElem?_eq_none (by rw [List.length_take]; omega)]
theorem name_new {α : Type} {f : α → Str} {ks : List α} (nd : (ks.map f).Nodup) {i : Nat} {k : α} (e : ks[i]? = some k) : f k ∉ (ks.take i).map f := by
  intro m
  obtain ⟨a, ha, ea⟩ := List.mem_map.mp m
  obtain ⟨j, hj, ej⟩ := List.getElem_of_mem ha
  rw [List.length_take] at hj
  rw [List.getElem_take] at ej
  have hi := (List.getElem?_eq_some_iff.mp e)
  obtain ⟨hi1, hi2⟩ := hi
  have h1 : (ks.map f)[j]'(by rw [List.length_map]; omega) = (ks.map f)[i]'(by rw [List.length_map]; omega) := by
    rw [List.getElem_map, List.getElem_map, ej, hi2, ea]
  have := (List.getElem_inj nd).mp h1
  omega
theorem put_snoc {α : Type} {f : α → Str} {g : α → V} {rs : List α} {r : α} (h : f r ∉ rs.map f) : putK (rs.map fun a => ((Sum.inr (f a) : Key), g a)) (Sum.inr (f r)) (g r) = (rs ++ [r]).map fun a => ((Sum.inr (f a) : Key), g a) := by
  rw [putK_new _ (valV_out h), List.map_append]
  rfl
theorem KRow.At.put {H : Hp} {k : KRow} {Da : Addr} {kvs : List (Key × V)} {o : HO} (hD : H Da = some (.dK kvs)) (n : k.da ≠ Da) (h : k.At H) : k.At (upd H Da o) :=
  ⟨by rw [upd_ne (ne_of h.t hD (by intro z; cases z))]; exact h.t, by rw [upd_ne (ne_of h.f hD (by intro z; cases z))]; exact h.f, by rw [upd_ne n]; exact h.d.at_, fun f m => (h.d.sh f m).gr (xs := []) (.inr ⟨_, hD⟩) Gr.box⟩
theorem FldAt.put {H : Hp} {d : Addr} {fs : List Fld} {Da : Addr} {kvs : List (Key × V)} {o : HO} (hD : H Da = some (.dK kvs)) (n : d ≠ Da) (h : FldAt H d fs) : FldAt (upd H Da o) d fs :=
  ⟨by rw [upd_ne n]; exact h.at_, fun f m => (h.sh f m).gr (xs := []) (.inr ⟨_, hD⟩) Gr.box⟩
theorem Oth.frz {H : Hp} {b : Addr} {o : Obj} {u : HO} (h : H b = some (.frz o u)) : Oth H b := ⟨_, h, (by intro _ z; cases z), (by intro _ z; cases z)⟩
theorem gr_x {H H' : Hp} {x : Addr} (s : Same H H') : Gr x H H' := fun a o _ e => s a o e
theorem fkvs_at {fs : List FRow} {i : Nat} {k : Key} {v : V} (e : (fkvs fs)[i]? = some (k, v)) : ∃ r, fs[i]? = some r ∧ k = Sum.inr r.nm ∧ v = .ref r.da := by
  unfold fkvs at e
  rw [List.getElem?_map] at e
  cases h : fs[i]? with
  | none => rw [h] at e; cases e
  | some f =>
    rw [h] at e
    cases e
    exact ⟨f, rfl, rfl, rfl⟩
theorem ukv_at {us : List URow} {i : Nat} {k : Key} {v : V} (e : (ukv us)[i]? = some (k, v)) : ∃ r, us[i]? = some r ∧ k = Sum.inr r.nm ∧ v = .ref r.t := by
  unfold ukv at e
  rw [List.getElem?_map] at e
  cases h : us[i]? with
  | none => rw [h] at e; cases e
  | some f =>
    rw [h] at e
    cases e
    exact ⟨f, rfl, rfl, rfl⟩
section
variable {P : Program} {w : World} {K : PySem.W.Frag} {mg : Str → Option Value} {base : Heap}

def spInit (C : Addr) : Sp := fun vs H Q _ => ∃ (x dx kt ft ut : Addr) (ks : List KRow) (fs : List FRow) (us : List URow) (root : Str), vs = [.ref x, .ref kt, .ref ft, .ref ut, .str root] ∧ H x = some (.ins C dx []) ∧ SchAt H kt ft ut ks fs us ∧ SchOk ks fs us root ∧
  ∀ H', Gr x H H' → BuiltAt C H' x ks fs us root → Q .non H'
theorem ok_init {f f1 C : Addr} {fd fd1 : FuncData} (F : Fun K "__init__" "Schema.__init__" s_Schema_init f fd) (D_check_schema : Df K mg "check_schema" s_check_schema f1 fd1 ["kinds", "faces", "unions", "root"]) (T : Nms mg) (L : ClT K C)
    (G_check_schema : FnOk P w K mg base CX0 8 f1 fd1 ["kinds", "faces", "unions", "root"] (spCheckSchema K)) : FnOk P w K mg base CX0 9 f fd ["self", "kinds", "faces", "unions", "root"] (spInit C) := by
  refine F.ok sc_Schema_init (fun vs H Q E h => ?_) (fun cdv A outer s H vs Q E hr h => ?_)
  · obtain ⟨x, dx, kt, ft, ut, ks, fs, us, root, rfl, _⟩ := h
    rfl
  · obtain ⟨x, dx, kt, ft, ut, ks, fs, us, root, rfl, hx, S, ok, q⟩ := h
    have hu := hu_of hr
    refine ⟨_, (pss_cons (ps_expr (pe_call G_check_schema (hr.mono (by decide)) (by rfl) D_check_schema.g D_check_schema.F.kp D_check_schema.b .nil pass0 (pa_cons (pv 1) (pa_cons (pv 2) (pa_cons (pv 3) (pa_cons (pv 4) pa_nil))))))
      (pss_cons (ps_fld (pv 0) (pe_lock (pe_dc (own := [("name", 5)]) (g := (gName 5)) (tt := tYes) rfl sc_Schema_init.nd (pi_keys (pv 1)) (blkOk_by (own := [("name", 5)]) (N := N_Schema_init) (sc := defScope s_Schema_init) (by decide +kernel)) (fun _ _ _ _ _ => (pg_name (i := 5) sc_Schema_init.nd rfl (.inl rfl))) (fun _ _ _ _ _ => pts_nil) (fun _ _ _ _ _ => (pv 5)) (fun _ _ _ _ _ => (pe_tup (pa_cons (pe_callTy (call_tuple_ofK K) (by rfl) T.n_tuple (by decide +kernel) (pa_cons (pe_callB (call_sortedTup K) (by rfl) T.n_sorted (by decide +kernel) (pa_cons (pe_ix (ix_tupK K) (pe_dget hu (pv 1) (pv 5) (fun _ _ => rfl)) pe_int (fun _ _ => rfl)) pa_nil)) pa_nil)) (pa_cons (pe_callTy call_dictD (by rfl) T.n_dict (by decide +kernel) (pa_cons (pe_ix (ix_tupK K) (pe_dget hu (pv 1) (pv 5) (fun _ _ => rfl)) pe_int (fun _ _ => rfl)) pa_nil)) pa_nil)))))) rfl)
      (pss_cons (ps_fld (pv 0) (pe_lock (pe_dc (own := [("name", 5)]) (g := (gName 5)) (tt := tYes) rfl sc_Schema_init.nd (pi_keys (pv 2)) (blkOk_by (own := [("name", 5)]) (N := N_Schema_init) (sc := defScope s_Schema_init) (by decide +kernel)) (fun _ _ _ _ _ => (pg_name (i := 5) sc_Schema_init.nd rfl (.inl rfl))) (fun _ _ _ _ _ => pts_nil) (fun _ _ _ _ _ => (pv 5)) (fun _ _ _ _ _ => (pe_callTy call_dictD (by rfl) T.n_dict (by decide +kernel) (pa_cons (pe_dget hu (pv 2) (pv 5) (fun _ _ => rfl)) pa_nil))))) rfl)
      (pss_cons (ps_fld (pv 0) (pe_lock (pe_dc (own := [("name", 5)]) (g := (gName 5)) (tt := tYes) rfl sc_Schema_init.nd (pi_keys (pv 3)) (blkOk_by (own := [("name", 5)]) (N := N_Schema_init) (sc := defScope s_Schema_init) (by decide +kernel)) (fun _ _ _ _ _ => (pg_name (i := 5) sc_Schema_init.nd rfl (.inl rfl))) (fun _ _ _ _ _ => pts_nil) (fun _ _ _ _ _ => (pv 5)) (fun _ _ _ _ _ => (pe_callTy (call_tuple_ofK K) (by rfl) T.n_tuple (by decide +kernel) (pa_cons (pe_callB (call_sortedTup K) (by rfl) T.n_sorted (by decide +kernel) (pa_cons (pe_dget hu (pv 3) (pv 5) (fun _ _ => rfl)) pa_nil)) pa_nil))))) rfl)
      (pss_one (ps_fld (pv 0) (pv 4) rfl)))))), ?_⟩
    refine ⟨.ref kt, rfl, .ref ft, rfl, .ref ut, rfl, .str root, rfl, kt, ft, ut, ks, fs, us, root, rfl, S, ok, fun H1 s1 => ?_⟩
    have k1 := ok.k1
    have f1' := ok.f1
    have u1' := ok.u1
    have S1 := S.same s1
    have hx1 := s1 _ _ hx
    -- kind_table
    refine ⟨kt, .dK (kkv ks), S1.kd, trivial, fun od => ⟨.ref kt, rfl, kt, od, rfl, .inl ⟨kkv ks, upd_same, fun Da nD => ?_⟩⟩⟩
    have hkl : (kkv ks).length = ks.length := List.length_map ..
    refine dc_it walk_keys (fun i H' => Same (upd H1 kt (.frz od (.dK (kkv ks)))) H' ∧ ∃ rs : List KRow, rs.length = i ∧ (∀ (j : Nat) (a b : KRow), ks[j]? = some a → rs[j]? = some b → b.nm = a.nm ∧ b.fcs.Perm a.fcs ∧ sortedS b.fcs = true ∧ b.fds = a.fds) ∧ (∀ r ∈ rs, r.At H' ∧ r.da ≠ Da) ∧ H' Da = some (.dK (kkv rs)))
      ⟨same_new nD, [], rfl, (fun j a b _ e => by simp at e), (fun r m => by cases m), upd_same⟩ (fun i H _ p => p.1 _ _ upd_same) ?_ ?_
    · rintro i y H2 H3 hi ⟨sm, rs, hl, hrel, hat, eD⟩ ⟨rfl, k, v, e, rfl⟩
      obtain ⟨k, er, rfl, rfl⟩ := kkv_at e
      have hm := List.mem_of_getElem? er
      have rk : Rd H3 kt (.dK (kkv ks)) := .inr ⟨od, sm _ _ upd_same⟩
      have hk1 := S1.ka k hm
      have gl : Gr kt H1 (upd H1 kt (.frz od (.dK (kkv ks)))) := Gr.box
      have ht : H3 k.t = some (.tup [.ref k.fa, .ref k.da]) := sm _ _ (by rw [upd_ne (ne_of hk1.t S1.kd (by intro z; cases z))]; exact hk1.t)
      have hfa : H3 k.fa = some (.tup (k.fcs.map V.str)) := sm _ _ (by rw [upd_ne (ne_of hk1.f S1.kd (by intro z; cases z))]; exact hk1.f)
      have hda : Rd H3 k.da (.dK (fkv k.fds)) := rd_same sm (rd_put S1.kd hk1.d.at_)
      have hsh : ∀ f ∈ k.fds, ShAt H3 f.2.1 f.2.2 := fun f m => ((hk1.d.sh f m).gr (xs := []) (.inr ⟨_, S1.kd⟩) Gr.box).same sm
      have few := (ok.kf k hm).2.2
      refine ⟨rfl, lcT ⟨.str k.nm, rfl, .ref kt, rfl, .str k.nm, rfl, kt, _, rfl, .inl ⟨kkv ks, .inr k.nm, rk, rfl, (kkv_val ok.ndk hm).symm⟩, k.t, _, 0, _, rfl, rfl, .inl (.inl ht), atI_nat (j := 0) rfl, k.fa, k.fcs, rfl, .inl (.inl hfa), by omega, fun ys p pm so np => ⟨p, _, rfl, .inl ⟨SqL.of upd_same, fun l nl => ?_⟩⟩⟩⟩
      have s4 : Same H3 (upd (upd H3 p (.lst (ys.map V.str))) l (.tup (ys.map V.str))) := (same_new np).trans (same_new nl)
      have el : (upd (upd H3 p (.lst (ys.map V.str))) l (.tup (ys.map V.str))) l = some (.tup (ys.map V.str)) := upd_same
      generalize upd (upd H3 p (.lst (ys.map V.str))) l (.tup (ys.map V.str)) = H4 at s4 el
      refine ⟨.ref kt, rfl, .str k.nm, rfl, kt, _, rfl, .inl ⟨kkv ks, .inr k.nm, rd_same s4 rk, rfl, (kkv_val ok.ndk hm).symm⟩, k.t, _, 1, _, rfl, rfl, .inl (.inl (s4 _ _ ht)), atI_nat (j := 1) rfl, k.da, fkv k.fds, rfl, rd_same s4 hda, fun d nd => ?_⟩
      refine ⟨by show 2 ≤ sizeLine; decide, fun t nt => ?_⟩
      have s5 : Same H3 (upd (upd H4 d (.dK (fkv k.fds))) t (.tup [.ref l, .ref d])) := (s4.trans (same_new nd)).trans (same_new nt)
      have eD5 := s5 _ _ eD
      have ndD : d ≠ Da := (ne_of_none (s4 _ _ eD) nd).symm
      have at5 : (KRow.mk k.nm t l d ys k.fds).At (upd (upd H4 d (.dK (fkv k.fds))) t (.tup [.ref l, .ref d])) :=
        ⟨upd_same, (((same_new nd).trans (same_new nt)) _ _ el), (by rw [upd_ne (ne_of_none (upd_same) nt)]; exact upd_same), fun f m => (hsh f m).same s5⟩
      refine ⟨kkv rs, .inr k.nm, rfl, eD5, ?_, same_upd (sm.trans s5) nD, rs ++ [KRow.mk k.nm t l d ys k.fds], ?_, ?_, ?_, ?_⟩
      · rw [show (kkv rs).length = rs.length from List.length_map ..]
        exact Nat.lt_of_le_of_lt (show rs.length ≤ 1000 by omega) (by decide)
      · rw [List.length_append, hl]; rfl
      · exact rel_snoc er hl hrel ⟨rfl, pm, so, rfl⟩
      · intro r hr
        rcases List.mem_append.mp hr with hr | hr
        · exact ⟨((hat r hr).1.same s5).put eD5 (hat r hr).2, (hat r hr).2⟩
        · obtain rfl := List.mem_singleton.mp hr
          exact ⟨at5.put eD5 ndD, ndD⟩
      · rw [upd_same]
        have hn : k.nm ∉ rs.map (fun k : KRow => k.nm) := by
          rw [rel_names (f := fun k : KRow => k.nm) hl (by omega) (fun j a b ea eb => (hrel j a b ea eb).1)]
          exact name_new ok.ndk er
        exact congrArg (fun z => some (HO.dK z)) (put_snoc (f := fun k : KRow => k.nm) (g := fun k => V.ref k.t) (r := KRow.mk k.nm t l d ys k.fds) hn)
    · rintro H2 ⟨sm, rs, hl, hrel, hat, eD⟩
      refine ⟨sm _ _ upd_same, ?_⟩
      have nDk : Da ≠ kt := fun z => by rw [z, upd_same] at nD; cases nD
      have su : Same H1 (upd H2 kt (.dK (kkv ks))) := same_unlock S1.kd sm
      have eD' : (upd H2 kt (.dK (kkv ks))) Da = some (.dK (kkv rs)) := by rw [upd_ne nDk]; exact eD
      have hat' : ∀ r ∈ rs, r.At (upd H2 kt (.dK (kkv ks))) := fun r m => (hat r m).1.gr (Oth.frz (sm _ _ upd_same)) Gr.box
      have hx2 := su _ _ hx1
      generalize upd H2 kt (.dK (kkv ks)) = H3 at su eD' hat' hx2
      refine ⟨.ref x, rfl, x, C, dx, _, rfl, hx2, L.cl, L.nk, by show 0 < 1000; decide, ?_⟩
      have g4 : Gr x H (upd H3 x (.ins C dx (putF "kind_table" (.ref Da) []))) := (gr_x (s1.trans su)).trans Gr.box
      have eD4 : (upd H3 x (.ins C dx (putF "kind_table" (.ref Da) []))) Da = some (.dK (kkv rs)) := Gr.box (b := x) _ _ ((Oth.ins hx2).ned eD') eD'
      have hat4 : ∀ r ∈ rs, r.At (upd H3 x (.ins C dx (putF "kind_table" (.ref Da) []))) := fun r m => (hat' r m).gr (Oth.ins hx2) Gr.box
      have hx4 : (upd H3 x (.ins C dx (putF "kind_table" (.ref Da) []))) x = some (.ins C dx [(("kind_table" : Str), V.ref Da)]) := by rw [upd_same, pf1]
      generalize upd H3 x (.ins C dx (putF "kind_table" (.ref Da) [])) = H4 at g4 eD4 hat4 hx4
      have relk : RelK ks rs := ⟨by omega, hrel⟩
      clear hat hat' eD eD' hx2 su sm hrel hl nD nDk
      have S4 := S.gr (Oth.ins hx) g4
      -- face_table
      refine ⟨ft, .dK (fkvs fs), S4.fd, trivial, fun od => ⟨.ref ft, rfl, ft, od, rfl, .inl ⟨fkvs fs, upd_same, fun Db nD => ?_⟩⟩⟩
      have hfl : (fkvs fs).length = fs.length := List.length_map ..
      refine dc_it walk_keys (fun i H' => Same (upd H4 ft (.frz od (.dK (fkvs fs)))) H' ∧ ∃ ts : List FRow, ts.length = i ∧ (∀ (j : Nat) (a b : FRow), fs[j]? = some a → ts[j]? = some b → b.nm = a.nm ∧ b.fds = a.fds) ∧ (∀ r ∈ ts, FldAt H' r.da r.fds ∧ r.da ≠ Db) ∧ H' Db = some (.dK (fkvs ts)))
        ⟨same_new nD, [], rfl, (fun j a b _ e => by simp at e), (fun r m => by cases m), upd_same⟩ (fun i H _ p => p.1 _ _ upd_same) ?_ ?_
      · rintro i y H5 H6 hi ⟨sm, ts, hl, hrel, hat, eD⟩ ⟨rfl, k, v, e, rfl⟩
        obtain ⟨k, er, rfl, rfl⟩ := fkvs_at e
        have hm := List.mem_of_getElem? er
        have rk : Rd H6 ft (.dK (fkvs fs)) := .inr ⟨od, sm _ _ upd_same⟩
        have hk1 := S4.fa k hm
        have hda : Rd H6 k.da (.dK (fkv k.fds)) := rd_same sm (rd_put S4.fd hk1.at_)
        have hsh : ∀ f ∈ k.fds, ShAt H6 f.2.1 f.2.2 := fun f m => ((hk1.sh f m).gr (xs := []) (.inr ⟨_, S4.fd⟩) Gr.box).same sm
        refine ⟨rfl, lcT ⟨.str k.nm, rfl, .ref ft, rfl, .str k.nm, rfl, ft, _, rfl, .inl ⟨fkvs fs, .inr k.nm, rk, rfl, (fkvs_val ok.ndf hm).symm⟩, k.da, fkv k.fds, rfl, hda, fun d nd => ?_⟩⟩
        have s5 : Same H6 (upd H6 d (.dK (fkv k.fds))) := same_new nd
        have eD5 := s5 _ _ eD
        have ndD : d ≠ Db := (ne_of_none eD nd).symm
        have at5 : FldAt (upd H6 d (.dK (fkv k.fds))) d k.fds := ⟨upd_same, fun f m => (hsh f m).same s5⟩
        refine ⟨fkvs ts, .inr k.nm, rfl, eD5, ?_, same_upd (sm.trans s5) nD, ts ++ [FRow.mk k.nm d k.fds], ?_, ?_, ?_, ?_⟩
        · rw [show (fkvs ts).length = ts.length from List.length_map ..]
          exact Nat.lt_of_le_of_lt (show ts.length ≤ 1000 by omega) (by decide)
        · rw [List.length_append, hl]; rfl
        · exact rel_snoc er hl hrel ⟨rfl, rfl⟩
        · intro r hr
          rcases List.mem_append.mp hr with hr | hr
          · exact ⟨((hat r hr).1.same s5).put eD5 (hat r hr).2, (hat r hr).2⟩
          · obtain rfl := List.mem_singleton.mp hr
            exact ⟨at5.put eD5 ndD, ndD⟩
        · rw [upd_same]
          have hn : k.nm ∉ ts.map (fun k : FRow => k.nm) := by
            rw [rel_names (f := fun k : FRow => k.nm) hl (by omega) (fun j a b ea eb => (hrel j a b ea eb).1)]
            exact name_new ok.ndf er
          exact congrArg (fun z => some (HO.dK z)) (put_snoc (f := fun k : FRow => k.nm) (g := fun k => V.ref k.da) (r := FRow.mk k.nm d k.fds) hn)
      · rintro H5 ⟨sm, ts, hl, hrel, hat, eD⟩
        refine ⟨sm _ _ upd_same, ?_⟩
        have nDk : Db ≠ ft := fun z => by rw [z, upd_same] at nD; cases nD
        have su : Same H4 (upd H5 ft (.dK (fkvs fs))) := same_unlock S4.fd sm
        have eD' : (upd H5 ft (.dK (fkvs fs))) Db = some (.dK (fkvs ts)) := by rw [upd_ne nDk]; exact eD
        have hat' : ∀ r ∈ ts, FldAt (upd H5 ft (.dK (fkvs fs))) r.da r.fds := fun r m => (hat r m).1.gr (Oth.frz (sm _ _ upd_same)) Gr.box
        have hx5 := su _ _ hx4
        have eDa5 := su _ _ eD4
        have hatk : ∀ r ∈ rs, r.At (upd H5 ft (.dK (fkvs fs))) := fun r m => (hat4 r m).same su
        generalize upd H5 ft (.dK (fkvs fs)) = H6 at su eD' hat' hx5 eDa5 hatk
        refine ⟨.ref x, rfl, x, C, dx, _, rfl, hx5, L.cl, L.nf, by show 1 < 1000; decide, ?_⟩
        have gx : Gr x H6 (upd H6 x (.ins C dx (putF "face_table" (.ref Db) [(("kind_table" : Str), V.ref Da)]))) := Gr.box
        have g7 := (g4.trans (gr_x su)).trans gx
        have eDa7 := gx _ _ ((Oth.ins hx5).ned eDa5) eDa5
        have eDb7 := gx _ _ ((Oth.ins hx5).ned eD') eD'
        have hatk7 : ∀ r ∈ rs, r.At _ := fun r m => (hatk r m).gr (Oth.ins hx5) gx
        have hatf7 : ∀ r ∈ ts, FldAt _ r.da r.fds := fun r m => (hat' r m).gr (Oth.ins hx5) gx
        have hx7 : (upd H6 x (.ins C dx (putF "face_table" (.ref Db) [(("kind_table" : Str), V.ref Da)]))) x = some (.ins C dx [(("kind_table" : Str), V.ref Da), ("face_table", V.ref Db)]) := by rw [upd_same, pf2]
        generalize upd H6 x (.ins C dx (putF "face_table" (.ref Db) [(("kind_table" : Str), V.ref Da)])) = H7 at g7 eDa7 eDb7 hatk7 hatf7 hx7 gx
        have relf : RelF fs ts := ⟨by omega, hrel⟩
        clear hat hat' eD eD' hx5 su sm hrel hl nD nDk gx
        have S7 := S.gr (Oth.ins hx) g7
        -- union_table
        refine ⟨ut, .dK (ukv us), S7.ud, trivial, fun od => ⟨.ref ut, rfl, ut, od, rfl, .inl ⟨ukv us, upd_same, fun Dc nD => ?_⟩⟩⟩
        have hul : (ukv us).length = us.length := List.length_map ..
        refine dc_it walk_keys (fun i H' => Same (upd H7 ut (.frz od (.dK (ukv us)))) H' ∧ ∃ vs : List URow, vs.length = i ∧ (∀ (j : Nat) (a b : URow), us[j]? = some a → vs[j]? = some b → b.nm = a.nm ∧ b.ms.Perm a.ms ∧ sortedS b.ms = true) ∧ (∀ r ∈ vs, H' r.t = some (.tup (r.ms.map V.str))) ∧ H' Dc = some (.dK (ukv vs)))
          ⟨same_new nD, [], rfl, (fun j a b _ e => by simp at e), (fun r m => by cases m), upd_same⟩ (fun i H _ p => p.1 _ _ upd_same) ?_ ?_
        · rintro i y H8 H9 hi ⟨sm, vs, hl, hrel, hat, eD⟩ ⟨rfl, k, v, e, rfl⟩
          obtain ⟨k, er, rfl, rfl⟩ := ukv_at e
          have hm := List.mem_of_getElem? er
          have rk : Rd H9 ut (.dK (ukv us)) := .inr ⟨od, sm _ _ upd_same⟩
          have ht : H9 k.t = some (.tup (k.ms.map V.str)) := sm _ _ (by rw [upd_ne (ne_of (S7.ua k hm) S7.ud (by intro z; cases z))]; exact S7.ua k hm)
          obtain ⟨_, _, n3, _⟩ := ok.ud k hm
          refine ⟨rfl, lcT ⟨.str k.nm, rfl, .ref ut, rfl, .str k.nm, rfl, ut, _, rfl, .inl ⟨ukv us, .inr k.nm, rk, rfl, (ukv_val ok.ndu hm).symm⟩, k.t, k.ms, rfl, .inl (.inl ht), by omega, fun ys p pm so np => ⟨p, _, rfl, .inl ⟨SqL.of upd_same, fun l nl => ?_⟩⟩⟩⟩
          have s5 : Same H9 (upd (upd H9 p (.lst (ys.map V.str))) l (.tup (ys.map V.str))) := (same_new np).trans (same_new nl)
          have eD5 := s5 _ _ eD
          have el : (upd (upd H9 p (.lst (ys.map V.str))) l (.tup (ys.map V.str))) l = some (.tup (ys.map V.str)) := upd_same
          refine ⟨ukv vs, .inr k.nm, rfl, eD5, ?_, same_upd (sm.trans s5) nD, vs ++ [URow.mk k.nm l ys], ?_, ?_, ?_, ?_⟩
          · rw [show (ukv vs).length = vs.length from List.length_map ..]
            exact Nat.lt_of_le_of_lt (show vs.length ≤ 1000 by omega) (by decide)
          · rw [List.length_append, hl]; rfl
          · exact rel_snoc er hl hrel ⟨rfl, pm, so⟩
          · intro r hr
            rcases List.mem_append.mp hr with hr | hr
            · have e5 := s5 _ _ (hat r hr)
              rw [upd_ne (ne_of e5 eD5 (by intro z; cases z))]
              exact e5
            · obtain rfl := List.mem_singleton.mp hr
              rw [upd_ne (ne_of el eD5 (by intro z; cases z))]
              exact el
          · rw [upd_same]
            have hn : k.nm ∉ vs.map (fun k : URow => k.nm) := by
              rw [rel_names (f := fun k : URow => k.nm) hl (by omega) (fun j a b ea eb => (hrel j a b ea eb).1)]
              exact name_new ok.ndu er
            exact congrArg (fun z => some (HO.dK z)) (put_snoc (f := fun k : URow => k.nm) (g := fun k => V.ref k.t) (r := URow.mk k.nm l ys) hn)
        · rintro H8 ⟨sm, vs, hl, hrel, hat, eD⟩
          refine ⟨sm _ _ upd_same, ?_⟩
          have nDk : Dc ≠ ut := fun z => by rw [z, upd_same] at nD; cases nD
          have su : Same H7 (upd H8 ut (.dK (ukv us))) := same_unlock S7.ud sm
          have eD' : (upd H8 ut (.dK (ukv us))) Dc = some (.dK (ukv vs)) := by rw [upd_ne nDk]; exact eD
          have hat' : ∀ r ∈ vs, (upd H8 ut (.dK (ukv us))) r.t = some (.tup (r.ms.map V.str)) := fun r m => by
            rw [upd_ne (ne_of (hat r m) (sm _ _ upd_same) (by intro z; cases z))]
            exact hat r m
          have hx8 := su _ _ hx7
          generalize upd H8 ut (.dK (ukv us)) = H9 at su eD' hat' hx8
          refine ⟨.ref x, rfl, x, C, dx, _, rfl, hx8, L.cl, L.nu, by show 2 < 1000; decide, ?_⟩
          refine ⟨.str root, rfl, .ref x, rfl, x, C, dx, _, rfl, upd_same, L.cl, L.nr, by rw [pf3]; show 3 < 1000; decide, ?_⟩
          have gx : Gr x H9 (upd (upd H9 x (.ins C dx (putF "union_table" (.ref Dc) [(("kind_table" : Str), V.ref Da), ("face_table", V.ref Db)]))) x (.ins C dx (putF "root" (.str root) (putF "union_table" (.ref Dc) [(("kind_table" : Str), V.ref Da), ("face_table", V.ref Db)])))) := Gr.box.trans Gr.box
          refine q _ ((g7.trans (gr_x su)).trans gx) ⟨dx, Da, Db, Dc, rs, ts, vs, ?_, ⟨?_, ?_, ?_, ?_, ?_, ?_⟩, relk, relf, ⟨by omega, hrel⟩⟩
          · rw [upd_same, pf3, pf4]
          · exact gx _ _ ((Oth.ins hx8).ned (su _ _ eDa7)) (su _ _ eDa7)
          · exact gx _ _ ((Oth.ins hx8).ned (su _ _ eDb7)) (su _ _ eDb7)
          · exact gx _ _ ((Oth.ins hx8).ned eD') eD'
          · exact fun r m => ((hatk7 r m).same su).gr (Oth.ins hx8) gx
          · exact fun r m => ((hatf7 r m).same su).gr (Oth.ins hx8) gx
          · exact fun r m => gx _ _ ((Oth.ins hx8).net (hat' r m)) (hat' r m)
end
end NW
namespace NW
open PySem PySem.Spec PyProof.Rows L2
abbrev s_Lbox : Stmt := topS 71
abbrev N_Lbox : List Str := ["_law_script"]
theorem sc_Lbox : FnScope N_Lbox ["_law_script"] (defScope s_Lbox) := ⟨rfl, rfl, rfl, by decide +kernel, rfl, by decide +kernel, by decide +kernel⟩
abbrev s_Ldraw : Stmt := topS 72
abbrev N_Ldraw : List Str := ["_law_box_here", "_law_many", "_law_cell", "_law_digit", "_law_number"]
theorem sc_Ldraw : FnScope N_Ldraw ["_law_box_here", "_law_many"] (defScope s_Ldraw) := ⟨rfl, rfl, rfl, by decide +kernel, rfl, by decide +kernel, by decide +kernel⟩
section
variable {P : Program} {w : World} {K : PySem.W.Frag} {mg : Str → Option Value} {base : Heap}
def spLbox (K : PySem.W.Frag) : Sp := fun vs H Q _ => ∃ (a : Addr) (ns : List Int), vs = [.ref a] ∧ SqL K H a (ns.map V.int) ∧ ns.length ≤ 63 ∧ ∀ H' b r, Same H H' → H b = none → H r = none → Box H' b r → Q (.ref b) H'
theorem ok_Lbox {f : Addr} {fd : FuncData} (D : Df K mg "_law_box" s_Lbox f fd ["_law_script"]) (T : Nms mg) : FnOk P w K mg base CX0 1 f fd ["_law_script"] (spLbox K) := by
  refine D.F.ok sc_Lbox (fun vs H Q E h => ?_) (fun cdv A outer s H vs Q E hr h => ?_)
  · obtain ⟨a, ns, rfl, _⟩ := h
    rfl
  · obtain ⟨a, ns, rfl, hS, hlen, q⟩ := h
    refine ⟨_, (pss_one (ps_ret (pe_lst (pa_cons (pe_callTy call_list_of (by rfl) T.n_list (by decide +kernel) (pa_cons (pe_slice sl_list (pv 0) po_none (po_some pe_int)) pa_nil)) (pa_cons pe_int (pa_cons pe_int (pa_cons pe_int (pa_cons pe_int pa_nil)))))))), ?_⟩
    refine ⟨.ref a, rfl, 63, rfl, a, _, rfl, hS, fun p np => ?_⟩
    refine ⟨p, _, rfl, .inl (SqL.of upd_same), fun l nl => ?_⟩
    refine ⟨by show 5 ≤ sizeLine; decide, fun b nb => ?_⟩
    have e1 : cutV (ns.map V.int) none (some 63) = ns.map V.int := by
      unfold cutV
      rw [show HT.sIx (ns.map V.int).length (ns.map V.int).length (some 63) = min 63 (ns.map V.int).length from HT.sIx_nat _ _ 63, HT.sIx_none]
      rw [List.length_map, Nat.min_eq_right hlen, List.drop_zero, Nat.sub_zero]
      exact List.take_of_length_le (by rw [List.length_map]; exact Nat.le_refl _)
    rw [e1] at nl nb ⊢
    have nlp : l ≠ p := fun e => by rw [e, upd_same] at nl; cases nl
    have nbl : b ≠ l := fun e => by rw [e, upd_same] at nb; cases nb
    have nbp : b ≠ p := fun e => by rw [e, upd_ne nlp.symm, upd_same] at nb; cases nb
    have nb0 : H b = Option.none := by rw [upd_ne nbl, upd_ne nbp] at nb; exact nb
    have nl0 : H l = Option.none := by rw [upd_ne nlp] at nl; exact nl
    refine q _ b l (fun c o e => ?_) nb0 nl0 ⟨ns, 0, 0, 1, 0, upd_same, ?_, nbl.symm, hlen, Int.le_refl _, by decide, by decide⟩
    · rw [upd_ne (ne_of_none e nb0), upd_ne (ne_of_none e nl0), upd_ne (ne_of_none e np)]
      exact e
    · rw [upd_ne nbl.symm, upd_same]
def spLdraw : Sp := fun vs H Q _ => ∃ (b r : Addr) (m : Int), vs = [.ref b, .int m] ∧ Box H b r ∧ 0 < m ∧ m < 1073741824 ∧ ∀ v H', 0 ≤ v → v < m → Gr b H H' → Box H' b r → Q (.int v) H'
theorem fmod_range {a m : Int} (h : 0 < m) : 0 ≤ a.fmod m ∧ a.fmod m < m := ⟨Int.fmod_nonneg_of_pos a h, Int.fmod_lt_of_pos a h⟩
theorem ok_Ldraw {f : Addr} {fd : FuncData} (D : Df K mg "_law_draw" s_Ldraw f fd ["_law_box_here", "_law_many"]) (T : Nms mg) : FnOk P w K mg base CX0 1 f fd ["_law_box_here", "_law_many"] spLdraw := by
  refine D.F.ok sc_Ldraw (fun vs H Q E h => ?_) (fun cdv A outer s H vs Q E hr h => ?_)
  · obtain ⟨b, r, m, rfl, _⟩ := h
    rfl
  · obtain ⟨b, r, m, rfl, ⟨ns, i, g, z, c, W⟩, m0, m1, q⟩ := h
    refine ⟨_, (pss_cons (ps_asg (pe_op op_add (pe_ix ix_list (pv 0) pe_int (fun _ _ => rfl)) pe_int) (pg_sub (pv 0) pe_int set_list))
      (pss_cons (ps_if (PW.pt (pw_and (pt_cmpR op_eq (pe_ix ix_list (pv 0) pe_int (fun _ _ => rfl)) pe_int (nomark _)) (pw_and1 (pt_cmpR op_lt (pe_ix ix_list (pv 0) pe_int (fun _ _ => rfl)) (pe_callB call_len_seq (by rfl) T.n_len PySem.boot_len (pa_cons (pe_ix ix_list (pv 0) pe_int (fun _ _ => rfl)) pa_nil)) (nomark _)))))
       (pss_cons (ps_set (i := 2) sc_Ldraw.nd rfl (.inl rfl) (pe_ix ix_list (pe_ix ix_list (pv 0) pe_int (fun _ _ => rfl)) (pe_ix ix_list (pv 0) pe_int (fun _ _ => rfl)) (fun _ _ => rfl)))
        (pss_cons (ps_asg (pe_op op_add (pe_ix ix_list (pv 0) pe_int (fun _ _ => rfl)) pe_int) (pg_sub (pv 0) pe_int set_list))
        (pss_one (ps_if (pt_cmpR op_ge (pv 2) (pe_op op_pow pe_int pe_int) (nomark _))
         (pss_one (ps_asg (pv 2) (pg_sub (pv 0) pe_int set_list)))
         (pss_one (ps_asg (pe_op op_modN (pe_callTy call_int1 (by rfl) T.n_int (by decide +kernel) (pa_cons (pe_op op_add (pe_op op_add (pe_op op_mul (pe_ix ix_list (pv 0) pe_int (fun _ _ => rfl)) pe_int) (pe_op op_mul (pe_op op_modN (pe_callTy call_int1 (by rfl) T.n_int (by decide +kernel) (pa_cons (pv 2) pa_nil)) pe_int) pe_int)) pe_int) pa_nil)) pe_int) (pg_sub (pv 0) pe_int set_list)))))))
       pss_nil)
      (pss_cons (ps_if (pt_cmpR op_gt (pe_ix ix_list (pv 0) pe_int (fun _ _ => rfl)) pe_int (nomark _))
       (pss_cons (ps_set (i := 3) sc_Ldraw.nd rfl (.inl rfl) (pe_op op_modN (pe_callTy call_int1 (by rfl) T.n_int (by decide +kernel) (pa_cons (pe_ix ix_list (pv 0) pe_int (fun _ _ => rfl)) pa_nil)) (pv 1)))
        (pss_cons (ps_asg (pe_op op_fdivN (pe_ix ix_list (pv 0) pe_int (fun _ _ => rfl)) (pv 1)) (pg_sub (pv 0) pe_int set_list))
        (pss_one (ps_ret (pv 3)))))
       pss_nil)
      (pss_cons (ps_asg (pe_op op_modN (pe_callTy call_int1 (by rfl) T.n_int (by decide +kernel) (pa_cons (pe_op op_add (pe_op op_add (pe_op op_mul (pe_ix ix_list (pv 0) pe_int (fun _ _ => rfl)) pe_int) (pe_op op_mul (pe_ix ix_list (pv 0) pe_int (fun _ _ => rfl)) pe_int)) pe_int) pa_nil)) pe_int) (pg_sub (pv 0) pe_int set_list))
      (pss_cons (ps_set (i := 4) sc_Ldraw.nd rfl (.inl rfl) (pe_op op_modN (pe_callTy call_int1 (by rfl) T.n_int (by decide +kernel) (pa_cons (pe_op op_add (pe_op op_mul (pe_ix ix_list (pv 0) pe_int (fun _ _ => rfl)) (pe_op op_add (pe_op op_mul (pe_ix ix_list (pv 0) pe_int (fun _ _ => rfl)) pe_int) pe_int)) (pe_ix ix_list (pv 0) pe_int (fun _ _ => rfl))) pa_nil)) pe_int))
      (pss_cons (ps_set (i := 4) sc_Ldraw.nd rfl (.inl rfl) (pe_op op_modN (pe_callTy call_int1 (by rfl) T.n_int (by decide +kernel) (pa_cons (pe_op op_mul (pv 4) (pe_op op_add (pe_op op_fdivN (pv 4) pe_int) pe_int)) pa_nil)) pe_int))
      (pss_one (ps_ret (pe_op op_modN (pe_callTy call_int1 (by rfl) T.n_int (by decide +kernel) (pa_cons (pe_op op_fdivN (pv 4) pe_int) pa_nil)) (pv 1)))))))))), ?_⟩
    refine cut2 (fun σ2 H2 => ∃ i g z c y2, σ2 = [some (.ref b), some (.int m), y2, none, none] ∧ Gr b H H2 ∧ BoxW H2 b r ns i g z c) ?_ (fun rest => ?_)
    · rintro σ2 H2 ⟨i, g, z, c, y2, rfl, gr, W⟩
      -- if box[2] > 0
      refine ⟨.ref b, rfl, b, _, 2, _, rfl, rfl, W.sq, at2, _, _, rfl, rfl, _, rfl, ite2 (fun e => ?_) (fun e => ?_)⟩
      · refine ⟨.ref b, rfl, b, _, 2, _, rfl, rfl, W.sq, at2, .inl ⟨_, rfl, _, rfl, _, _, rfl, rfl, Int.ne_of_gt m0, ?_⟩⟩
        refine ⟨.ref b, rfl, b, _, 2, _, rfl, rfl, W.sq, at2, _, rfl, _, _, rfl, rfl, ⟨Int.ne_of_gt m0, by omega⟩, .ref b, rfl, b, _, 2, 2, rfl, rfl, W.at_, rfl, ?_⟩
        have W1 := W.set (i' := i) (g' := g.fdiv m) (z' := z) (c' := c) W.i0 W.z0 W.z1
        exact ⟨_, rfl, q _ _ (fmod_range m0).1 (fmod_range m0).2 (gr.trans Gr.box) ⟨_, _, _, _, _, W1⟩⟩
      · -- box[3] = ..
        refine ⟨.ref b, rfl, b, _, 3, _, rfl, rfl, W.sq, at3, _, _, rfl, rfl, .inr ⟨by decide, by decide⟩, ?_⟩
        refine ⟨.ref b, rfl, b, _, 4, _, rfl, rfl, W.sq, at4, _, _, rfl, rfl, .inr ⟨by decide, by decide⟩, _, _, rfl, rfl, _, _, rfl, rfl, .inl ⟨_, rfl, _, _, rfl, rfl, nz rfl, ?_⟩⟩
        refine ⟨.ref b, rfl, b, _, 3, 3, rfl, rfl, W.at_, rfl, ?_⟩
        have hz := fmod_range (a := z * 48271 + c * 69621 + 1) (show (0 : Int) < 2147483629 by decide)
        have W1 := W.set (i' := i) (g' := g) (z' := (z * 48271 + c * 69621 + 1).fmod 2147483629) (c' := c) W.i0 hz.1 (by omega)
        have g1 := gr.trans (Gr.box (b := b) (H := H2) (o := .lst (bl r i g ((z * 48271 + c * 69621 + 1).fmod 2147483629) c)))
        -- number = int(box[3] * (box[4] * 7919 + 17) + box[4]) % 2147483399
        refine ⟨.ref b, rfl, b, _, 3, _, rfl, rfl, W1.sq, at3, .ref b, rfl, b, _, 4, _, rfl, rfl, W1.sq, at4, _, _, rfl, rfl, .inr ⟨by decide, by decide⟩, _, _, rfl, rfl, _, _, rfl, rfl, .inl ⟨by omega, by omega⟩, ?_⟩
        refine ⟨.ref b, rfl, b, _, 4, _, rfl, rfl, W1.sq, at4, _, _, rfl, rfl, .inl ⟨_, rfl, _, _, rfl, rfl, nz rfl, ?_⟩⟩
        have hn1 := fmod_range (a := (((z * 48271 + c * 69621 + 1).fmod 2147483629) * (c * 7919 + 17) + c)) (show (0 : Int) < 2147483399 by decide)
        -- number = int(number * (number // 1009 + 40692)) % 2147483647
        refine ⟨_, rfl, _, rfl, _, _, rfl, rfl, ⟨by decide, by decide⟩, _, _, rfl, rfl, _, _, rfl, rfl, .inl ⟨by omega, by omega⟩, .inl ⟨_, rfl, _, _, rfl, rfl, nz rfl, ?_⟩⟩
        -- return int(number // 8191) % many
        refine ⟨_, rfl, _, _, rfl, rfl, ⟨by decide, by decide⟩, .inl ⟨_, rfl, .int m, rfl, _, _, rfl, rfl, Int.ne_of_gt m0, ?_⟩⟩
        exact q _ _ (fmod_range m0).1 (fmod_range m0).2 g1 ⟨_, _, _, _, _, W1⟩
    refine ⟨.ref b, rfl, b, _, 4, _, rfl, rfl, W.sq, at4, c, 1, rfl, rfl, .ref b, rfl, b, _, 4, 4, rfl, rfl, W.at_, rfl, ?_⟩
    have W1 := W.set (i' := i) (g' := g) (z' := z) (c' := c + 1) W.i0 W.z0 W.z1
    have g1 : Gr b H (upd H b (.lst (bl r i g z (c + 1)))) := Gr.box
    -- if box[2] == 0 and box[1] < len(box[0])
    refine ⟨.ref b, rfl, b, _, 2, _, rfl, rfl, W1.sq, at2, rfl, _, rfl, ite2 (fun e => ?_) (fun e => ?_)⟩
    · refine ⟨.ref b, rfl, b, _, 1, _, rfl, rfl, W1.sq, at1, .ref b, rfl, b, _, 0, _, rfl, rfl, W1.sq, at0, r, _, rfl, .inl (SqL.of W1.lst), _, _, rfl, rfl, _, rfl, ite2 (fun e => ?_) (fun e => ?_)⟩
      · -- cell = box[0][box[1]]
        have ei : i < (ns.map V.int).length := of_decide_eq_true e
        rw [List.length_map] at ei
        obtain ⟨j, rfl⟩ := Int.eq_ofNat_of_zero_le W.i0
        have hj : j < ns.length := by omega
        have gj : atI (ns.map V.int) (j : Int) = some (.int ns[j]) := atI_nat (by rw [List.getElem?_map, List.getElem?_eq_getElem hj]; rfl)
        refine ⟨.ref b, rfl, b, _, 0, _, rfl, rfl, W1.sq, at0, .ref b, rfl, b, _, 1, _, rfl, rfl, W1.sq, at1, r, _, _, _, rfl, rfl, SqL.of W1.lst, gj, ?_⟩
        -- box[1] = box[1] + 1
        refine ⟨.ref b, rfl, b, _, 1, _, rfl, rfl, W1.sq, at1, _, 1, rfl, rfl, .ref b, rfl, b, _, 1, 1, rfl, rfl, W1.at_, rfl, ?_⟩
        have W2 := W1.set (i' := (j : Int) + 1) (g' := g) (z' := z) (c' := c + 1) (by omega) W.z0 W.z1
        have g2 := g1.trans (Gr.box (b := b) (H := upd H b (.lst (bl r j g z (c + 1)))) (o := .lst (bl r ((j : Int) + 1) g z (c + 1))))
        -- if cell >= 10 ** 18
        refine ⟨.int ns[j], rfl, _, _, rfl, rfl, ⟨by decide, by decide, by decide⟩, _, _, rfl, rfl, _, rfl, ite2 (fun e => ?_) (fun e => ?_)⟩
        · refine ⟨.int ns[j], rfl, .ref b, rfl, b, _, 2, 2, rfl, rfl, W2.at_, rfl, ?_⟩
          have W3 := W2.set (i' := (j : Int) + 1) (g' := ns[j]) (z' := z) (c' := c + 1) (by omega) W.z0 W.z1
          exact rest _ _ ⟨_, _, _, _, some (.int ns[j]), rfl, g2.trans Gr.box, W3⟩
        · refine ⟨.ref b, rfl, b, _, 3, _, rfl, rfl, W2.sq, at3, _, _, rfl, rfl, .inr ⟨by decide, by decide⟩, ?_⟩
          refine ⟨.int ns[j], rfl, .inl ⟨_, rfl, _, _, rfl, rfl, nz rfl, _, _, rfl, rfl, .inr ⟨by decide, by decide⟩, _, _, rfl, rfl, _, _, rfl, rfl, .inl ⟨_, rfl, _, _, rfl, rfl, nz rfl, ?_⟩⟩⟩
          refine ⟨.ref b, rfl, b, _, 3, 3, rfl, rfl, W2.at_, rfl, ?_⟩
          have hz := fmod_range (a := z * 48271 + (ns[j]).fmod 1000003 * 69621 + 7919) (show (0 : Int) < 2147483647 by decide)
          have W3 := W2.set (i' := (j : Int) + 1) (g' := g) (z' := (z * 48271 + (ns[j]).fmod 1000003 * 69621 + 7919).fmod 2147483647) (c' := c + 1) (by omega) hz.1 (by omega)
          exact rest _ _ ⟨_, _, _, _, some (.int ns[j]), rfl, g2.trans Gr.box, W3⟩
      · exact rest _ _ ⟨_, _, _, _, none, rfl, g1, W1⟩
    · exact rest _ _ ⟨_, _, _, _, none, rfl, g1, W1⟩
end
end NW
namespace NW
open PySem PySem.Spec PyProof.Rows L2
open TL (tl)
open StX (pa_star)
abbrev s_Lshape : Stmt := topS 74
abbrev N_Lshape : List Str := ["_law_box_here", "_law_bases_here", "_law_most", "_law_shape_here", "_law_lists", "_law_k", "_law_sure"]
theorem sc_Lshape : FnScope N_Lshape ["_law_box_here", "_law_bases_here", "_law_most"] (defScope s_Lshape) := ⟨rfl, rfl, rfl, by decide +kernel, rfl, by decide +kernel, by decide +kernel⟩
theorem okS_mono {l : List Str} : ∀ {s : Shp} {n m : Nat} {o : Bool}, n ≤ m → okS l n o s → okS l m o s := by
  intro s
  induction s with
  | base z =>
    intro n m o _ h
    cases n <;> cases m <;> exact h
  | sure s ih =>
    intro n m o hl h
    cases n with
    | zero => exact h.elim
    | succ n =>
      cases m with
      | zero => omega
      | succ m => exact ⟨h.1, ih (by omega) h.2⟩
  | list s ih =>
    intro n m o hl h
    cases n with
    | zero => exact h.elim
    | succ n =>
      cases m with
      | zero => omega
      | succ m => exact ih (by omega) (show okS l n false s from h)
def Shp.isSure : Shp → Bool
  | .sure _ => true
  | _ => false
theorem okS_un {l : List Str} {n : Nat} {s : Shp} (h : okS l n false s) (hs : s.isSure = false) : okS l n true s := by
  cases s with
  | base z => cases n <;> exact h
  | sure s => cases hs
  | list s => cases n <;> exact h
section
variable {P : Program} {w : World} {K : PySem.W.Frag} {mg : Str → Option Value} {base : Heap}

def spLshape : Sp := fun vs H Q _ => ∃ (b r bs : Addr) (l : List Str) (m : Nat), vs = [.ref b, .ref bs, .int m] ∧ Box H b r ∧ H bs = some (.lst (l.map V.str)) ∧ bs ≠ b ∧ 0 < l.length ∧ l.length ≤ 1000 ∧ m ≤ 4 ∧
  ∀ v s H', ShAt H' v s → okS l 4 false s → Gr b H H' → Box H' b r → Q v H'
theorem ok_Lshape {f f1 : Addr} {fd fd1 : FuncData} (D : Df K mg "_law_shape" s_Lshape f fd ["_law_box_here", "_law_bases_here", "_law_most"]) (D_Ldraw : Df K mg "_law_draw" s_Ldraw f1 fd1 ["_law_box_here", "_law_many"]) (T : Nms mg) : FnOk P w K mg base CX0 2 f fd ["_law_box_here", "_law_bases_here", "_law_most"] spLshape := by
  have G_Ldraw : FnOk P w K mg base CX0 1 f1 fd1 ["_law_box_here", "_law_many"] spLdraw := ok_Ldraw D_Ldraw T
  refine D.F.ok sc_Lshape (fun vs H Q E h => ?_) (fun cdv A outer s H vs Q E hr h => ?_)
  · obtain ⟨b, r, bs, l, m, rfl, _⟩ := h
    rfl
  · obtain ⟨b, r, bs, l, m, rfl, B, hbs, nbs, l0, l1, hm, q⟩ := h
    refine ⟨_, (pss_cons (ps_set (i := 3) sc_Lshape.nd rfl (.inl rfl) (pe_ix ix_list (pv 1) (pe_call G_Ldraw (hr.mono (by decide)) (by rfl) D_Ldraw.g D_Ldraw.F.kp D_Ldraw.b .nil pass0 (pa_cons (pv 0) (pa_cons (pe_callB call_len_seq (by rfl) T.n_len (by decide +kernel) (pa_cons (pv 1) pa_nil)) pa_nil))) (fun _ _ => rfl)))
      (pss_cons (ps_set (i := 4) sc_Lshape.nd rfl (.inl rfl) pe_int)
      (pss_cons (ps_for PassesOwn.never rfl (pi_range1 (by rfl) T.n_range (pa_cons (pe_call G_Ldraw (hr.mono (by decide)) (by rfl) D_Ldraw.g D_Ldraw.F.kp D_Ldraw.b .nil pass0 (pa_cons (pv 0) (pa_cons (pe_op op_add (pv 2) pe_int) pa_nil))) pa_nil)) (pg_name (i := 5) sc_Lshape.nd rfl (.inl rfl))
       (pss_cons (ps_set (i := 6) sc_Lshape.nd rfl (.inl rfl) (pe_and (pe_not (pe_callB call_isi (by rfl) T.n_isinstance (by decide +kernel) (pa_cons (pv 3) (pa_cons (pe_bltn (v := .ty "str") (by rfl) T.n_str (by decide +kernel) rfl) pa_nil)))) (pe_one (pe_cmpR op_eq (pe_ix ix_tup (pv 3) pe_int (fun _ _ => rfl)) pe_str (nomark _)))))
        (pss_one (ps_if (PW.pt (pw_and (pt_not (pt_val (pv 6))) (pw_and1 (pt_cmpR op_eq (pe_call G_Ldraw (hr.mono (by decide)) (by rfl) D_Ldraw.g D_Ldraw.F.kp D_Ldraw.b .nil pass0 (pa_cons (pv 0) (pa_cons pe_int pa_nil))) pe_int (nomark _)))))
         (pss_one (ps_set (i := 3) sc_Lshape.nd rfl (.inl rfl) (pe_tup (pa_cons pe_str (pa_cons (pv 3) pa_nil)))))
         (pss_one (ps_if (PW.pt (pw_or (pt_cmpR op_lt (pv 4) pe_int (nomark _)) (pw_or1 (pt_cmpR op_eq (pv 2) pe_int (nomark _)))))
           (pss_cons (ps_set (i := 3) sc_Lshape.nd rfl (.inl rfl) (pe_tup (pa_cons pe_str (pa_cons (pv 3) pa_nil))))
            (pss_one (ps_set (i := 4) sc_Lshape.nd rfl (.inl rfl) (pe_op op_add (pv 4) pe_int))))
           pss_nil))))))
      (pss_one (ps_ret (pv 3)))))), ?_⟩
    -- the base
    refine ⟨.ref bs, rfl, .ref b, rfl, .ref bs, rfl, bs, _, rfl, .inl (SqL.of hbs), b, r, (l.length : Int), ?_, B, by omega, by omega, fun d H1 d0 d1 g1 B1 => ?_⟩
    · show [V.ref b, V.int ((l.map V.str).length : Int)] = [V.ref b, V.int (l.length : Int)]
      rw [List.length_map]
    obtain ⟨d, rfl⟩ := Int.eq_ofNat_of_zero_le d0
    have hd : d < l.length := by omega
    refine ⟨bs, _, d, .str l[d], rfl, rfl, SqL.of (g1 _ _ nbs hbs), atI_nat (by rw [List.getElem?_map, List.getElem?_eq_getElem hd]; rfl), ?_⟩
    -- range(draw(most + 1))
    refine ⟨.ref b, rfl, .int m, rfl, _, _, rfl, rfl, b, r, ((m : Int) + 1), rfl, B1, by omega, by omega, fun n H2 n0 n1 g2 B2 => ?_⟩
    obtain ⟨n, rfl⟩ := Int.eq_ofNat_of_zero_le n0
    have hn : n ≤ m := by omega
    refine ⟨n, rfl, by omega, by omega, for_range (lo := 0) (n := n) (fun i σ H' => ∃ (v : V) (s : Shp) (c : Nat) (y5 y6 : Option V), σ = [some (.ref b), some (.ref bs), some (.int m), some v, some (.int c), y5, y6] ∧ ShAt H' v s ∧ okS l i false s ∧ Gr b H H' ∧ Box H' b r) ?_ ?_ ?_⟩
    · exact ⟨_, .base l[d], 0, none, none, rfl, rfl, List.getElem_mem hd, g1.trans g2, B2⟩
    · rintro i σ H3 hi ⟨v, s, c, y5, y6, rfl, hv, hs, g3, B3⟩
      refine cut1 (fun σ' H' => σ' = [some (.ref b), some (.ref bs), some (.int m), some v, some (.int c), some (.int (0 + i)), some (.bl s.isSure)] ∧ H3 = H') ?_ (fun rest => ?_)
      · rintro σ' H' ⟨rfl, rfl⟩
        have hvs : ∀ {H5 : Hp}, Gr b H3 H5 → ShAt H5 v s := fun g => by
          obtain ⟨xs, e⟩ := B3.lst
          exact hv.grO (Oth.lst e) g
        refine cutE (fun σ' H' => σ' = [some (.ref b), some (.ref bs), some (.int m), some v, some (.int c), some (.int (0 + i)), some (.bl s.isSure)] ∧ Gr b H3 H' ∧ Box H' b r) ?_ (fun els => ?_)
        · rintro σ' H5 ⟨rfl, g5, B5⟩
          have go : ∀ p, H5 p = none → ∃ (v' : V) (s' : Shp) (c' : Nat) (y5 y6 : Option V), ([some (V.ref b), some (V.ref bs), some (V.int m), some (V.ref p), some (V.int ((c : Int) + 1)), some (V.int (0 + i)), some (V.bl s.isSure)] : L2.St) = [some (V.ref b), some (V.ref bs), some (V.int m), some v', some (V.int c'), y5, y6] ∧ ShAt (upd H5 p (.tup [.str "list", v])) v' s' ∧ okS l (i + 1) false s' ∧ Gr b H (upd H5 p (.tup [.str "list", v])) ∧ Box (upd H5 p (.tup [.str "list", v])) b r :=
            fun p np => ⟨_, .list s, c + 1, _, _, rfl, ⟨p, v, rfl, upd_same, hvs (g5.trans (Gr.new np))⟩, hs, (g3.trans g5).trans (Gr.new np), B5.new np⟩
          refine ⟨.int c, rfl, _, _, rfl, rfl, _, rfl, ite2 (fun e => ?_) (fun e => ?_)⟩
          · refine iteT ⟨v, rfl, by show 2 ≤ sizeLine; decide, fun p np => ⟨.int c, rfl, _, _, rfl, rfl, go p np⟩⟩
          · refine ⟨.int m, rfl, rfl, _, rfl, ite2 (fun e => ?_) (fun e => ?_)⟩
            · exact ⟨v, rfl, by show 2 ≤ sizeLine; decide, fun p np => ⟨.int c, rfl, _, _, rfl, rfl, go p np⟩⟩
            · exact ⟨v, s, c, _, _, rfl, hvs g5, okS_mono (by omega) hs, g3.trans g5, B5⟩
        · cases hsu : s.isSure with
          | true =>
            rw [hsu] at els
            exact ⟨_, rfl, true, rfl, iteF (els _ _ ⟨rfl, Gr.refl, B3⟩)⟩
          | false =>
            rw [hsu] at els
            refine ⟨_, rfl, false, rfl, iteT ⟨.ref b, rfl, b, r, 2, rfl, B3, by decide, by decide, fun d H4 d0 d1 g4 B4 => ⟨rfl, _, rfl, ite2 (fun e => ?_) (fun e => ?_)⟩⟩⟩
            · exact ⟨v, rfl, by show 2 ≤ sizeLine; decide, fun p np => ⟨_, .sure s, c, _, _, rfl, ⟨p, v, rfl, upd_same, hvs (g4.trans (Gr.new np))⟩, ⟨rfl, okS_un hs hsu⟩, (g3.trans g4).trans (Gr.new np), B4.new np⟩⟩
            · exact els _ _ ⟨rfl, g4, B4⟩
      · cases s with
        | base z =>
          obtain rfl := hv
          exact ⟨.str z, rfl, _, _, _, _, true, rfl, .ty "str", .base (.str z), kit_ty (by decide +kernel), true, rfl, false, rfl, iteF (rest _ _ ⟨rfl, rfl⟩)⟩
        | sure s =>
          obtain ⟨a, u, rfl, ha, hu⟩ := hv
          refine ⟨.ref a, rfl, _, _, _, _, false, rfl, .ty "str", .base (.tup ha), kit_ty (by decide +kernel), false, rfl, true, rfl, iteT ⟨.ref a, rfl, a, _, 0, _, rfl, rfl, .inl (.inl ha), atI_nat (j := 0) rfl, rfl, ?_⟩⟩
          rw [decide_eq_true rfl]
          exact rest _ _ ⟨rfl, rfl⟩
        | list s =>
          obtain ⟨a, u, rfl, ha, hu⟩ := hv
          refine ⟨.ref a, rfl, _, _, _, _, false, rfl, .ty "str", .base (.tup ha), kit_ty (by decide +kernel), false, rfl, true, rfl, iteT ⟨.ref a, rfl, a, _, 0, _, rfl, rfl, .inl (.inl ha), atI_nat (j := 0) rfl, rfl, ?_⟩⟩
          rw [decide_eq_false (show ¬ (V.str "list" = V.str "sure") by decide +kernel)]
          exact rest _ _ ⟨rfl, rfl⟩
    · rintro σ H3 ⟨v, s, c, y5, y6, rfl, hv, hs, g3, B3⟩
      exact ⟨v, rfl, q v s H3 hv (okS_mono (by omega) hs) g3 B3⟩
end
end NW
namespace NW
open PySem PySem.Spec PyProof.Rows L2
section
variable {X : Cx}
/-- a dict against an empty one -/
theorem op_eq_dict0 (hu : X.A.units < cLine) : OpR X (compareOp .Eq) (fun x y H Q => ∃ (a b : Addr) (kvs : List (Key × V)), x = .ref a ∧ y = .ref b ∧ H a = some (.dK kvs) ∧ H b = some (.dK []) ∧ Q (.bl (kvs.length == 0)) H) := by
  intro pins s σ H x y v u Q I rx ry h
  obtain ⟨a, b, kvs, rfl, rfl, ea, eb, q⟩ := h
  cases rx
  cases ry
  have oa : ObjOk X.prog X.w H s.heap a (.dK kvs) := I.hok a _ ea
  have ob : ObjOk X.prog X.w H s.heap b (.dK []) := I.hok b _ eb
  obtain ⟨_, na, ua, pa, da⟩ := oa
  obtain ⟨_, nb, ub, pb, db⟩ := ob
  have la := pa.length
  have lb := pb.length
  refine PySem.W.keq_eq (knd := mixKind X.prog X.w) (r := true) na nb da db hu (fun e => hits_all pb pa fun p hp => ?_) (fin_bl I q ?_)
  · have : kvs.length = 0 := by
      rw [la, e, ← lb]
      rfl
    rw [List.length_eq_zero_iff.mp this] at hp
    cases hp
  · rw [← la, ← lb]
    simp
end
/-- fewer different things than there are in a list that holds them all -/
theorem len_le_of_sub {α : Type} [DecidableEq α] : ∀ {l m : List α}, l.Nodup → (∀ x ∈ l, x ∈ m) → l.length ≤ m.length
  | [], _, _, _ => Nat.zero_le _
  | a :: r, m, nd, h => by
    have hn := List.nodup_cons.mp nd
    have ha : a ∈ m := h a List.mem_cons_self
    have ih := len_le_of_sub (l := r) (m := m.erase a) hn.2 fun x hx => (List.mem_erase_of_ne (fun e => hn.1 (by rw [← e]; exact hx))).mpr (h x (List.mem_cons_of_mem _ hx))
    rw [List.length_erase_of_mem ha] at ih
    have := List.length_pos_of_mem ha
    rw [List.length_cons]
    omega
/-! ### one field more, or one given anew -/
def putFl (fs : List Fld) (f : Fld) : List Fld := if f.1 ∈ fs.map (·.1) then fs.map (fun x => if x.1 = f.1 then f else x) else fs ++ [f]
theorem putFl_kv (fs : List Fld) (f : Fld) : putK (fkv fs) (Sum.inr f.1) f.2.1 = fkv (putFl fs f) := by
  unfold putFl
  by_cases h : f.1 ∈ fs.map (·.1)
  · rw [if_pos h]
    unfold putK
    have e : ((fkv fs).any fun kv => decide (kv.1 = (Sum.inr f.1 : Key))) = true := by
      obtain ⟨x, hx, ex⟩ := List.mem_map.mp h
      exact List.any_eq_true.mpr ⟨_, List.mem_map.mpr ⟨x, hx, rfl⟩, decide_eq_true (congrArg Sum.inr ex)⟩
    rw [if_pos e]
    unfold fkv
    rw [List.map_map, List.map_map]
    refine List.map_congr_left fun x _ => ?_
    show (if (Sum.inr x.1 : Key) = Sum.inr f.1 then ((Sum.inr x.1 : Key), f.2.1) else ((Sum.inr x.1 : Key), x.2.1)) = _
    by_cases e2 : x.1 = f.1
    · rw [if_pos (congrArg Sum.inr e2)]
      show _ = ((Sum.inr (if x.1 = f.1 then f else x).1 : Key), (if x.1 = f.1 then f else x).2.1)
      rw [if_pos e2, e2]
    · rw [if_neg fun z => e2 (Sum.inr.inj z)]
      show _ = ((Sum.inr (if x.1 = f.1 then f else x).1 : Key), (if x.1 = f.1 then f else x).2.1)
      rw [if_neg e2]
  · rw [if_neg h]
    exact put_snoc0 h
where
  put_snoc0 {fs : List Fld} {f : Fld} (h : f.1 ∉ fs.map (·.1)) : putK (fkv fs) (Sum.inr f.1) f.2.1 = fkv (fs ++ [f]) := by
    unfold fkv
    rw [putK_new _ (valV_out (f := fun f : Fld => f.1) (g := fun f => f.2.1) h), List.map_append]
    rfl
theorem putFl_keys (fs : List Fld) (f : Fld) : (putFl fs f).map (·.1) = if f.1 ∈ fs.map (·.1) then fs.map (·.1) else fs.map (·.1) ++ [f.1] := by
  unfold putFl
  by_cases h : f.1 ∈ fs.map (·.1)
  · rw [if_pos h, if_pos h, List.map_map]
    refine List.map_congr_left fun x _ => ?_
    show (if x.1 = f.1 then f else x).1 = x.1
    split
    · rename_i e
      exact e.symm
    · rfl
  · rw [if_neg h, if_neg h, List.map_append]
    rfl
theorem putFl_nd {fs : List Fld} {f : Fld} (h : (fs.map (·.1)).Nodup) : ((putFl fs f).map (·.1)).Nodup := by
  rw [putFl_keys]
  split
  · exact h
  · rename_i n
    rw [List.nodup_append]
    exact ⟨h, by simp, fun a ha b hb e => n (by rw [List.mem_singleton.mp hb] at e; rw [← e]; exact ha)⟩
theorem putFl_mem {fs : List Fld} {f x : Fld} (h : x ∈ putFl fs f) : x = f ∨ (x ∈ fs ∧ x.1 ≠ f.1) := by
  unfold putFl at h
  split at h
  · obtain ⟨y, hy, e⟩ := List.mem_map.mp h
    split at e
    · exact .inl e.symm
    · rename_i n
      subst e
      exact .inr ⟨hy, n⟩
  · rename_i n
    rcases List.mem_append.mp h with h | h
    · exact .inr ⟨h, fun e => n (by rw [← e]; exact List.mem_map.mpr ⟨x, h, rfl⟩)⟩
    · exact .inl (List.mem_singleton.mp h)
theorem putFl_has (fs : List Fld) (f : Fld) : f ∈ putFl fs f := by
  unfold putFl
  split
  · rename_i h
    obtain ⟨x, hx, ex⟩ := List.mem_map.mp h
    exact List.mem_map.mpr ⟨x, hx, if_pos ex⟩
  · exact List.mem_append_right _ (List.mem_singleton.mpr rfl)
theorem putFl_old {fs : List Fld} {f x : Fld} (h : x ∈ fs) (n : x.1 ≠ f.1) : x ∈ putFl fs f := by
  unfold putFl
  split
  · exact List.mem_map.mpr ⟨x, h, if_neg n⟩
  · exact List.mem_append_left _ h
theorem putFl_len {fs : List Fld} {f : Fld} : (putFl fs f).length ≤ fs.length + 1 := by
  unfold putFl
  split
  · rw [List.length_map]; omega
  · rw [List.length_append]; exact Nat.le_refl _
end NW
namespace NW
open PySem PySem.Spec PyProof.Rows L2
open TL (tl)
open StX (pa_star)
abbrev s_Lkind : Stmt := topS 75
abbrev N_Lkind : List Str := ["_law_box_here", "_law_faces", "_law_names", "_law_common", "_law_bases_here", "_law_most", "_law_table_here", "_law_face", "_law_field", "_law_k"]
theorem sc_Lkind : FnScope N_Lkind ["_law_box_here", "_law_faces", "_law_names", "_law_common", "_law_bases_here", "_law_most"] (defScope s_Lkind) := ⟨rfl, rfl, rfl, by decide +kernel, rfl, by decide +kernel, by decide +kernel⟩
theorem upd_id {H : Hp} {d : Addr} {u : HO} (h : H d = some u) : upd H d u = H := by
  funext b
  by_cases e : b = d
  · subst e
    rw [upd_same, h]
  · rw [upd_ne e]
theorem upd_comm {H : Hp} {a b : Addr} {o u : HO} (h : a ≠ b) : upd (upd H a o) b u = upd (upd H b u) a o := by
  funext c
  by_cases e1 : c = b
  · subst e1
    rw [upd_same, upd_ne h.symm, upd_same]
  · rw [upd_ne e1]
    by_cases e2 : c = a
    · subst e2
      rw [upd_same, upd_same]
    · rw [upd_ne e2, upd_ne e2, upd_ne e1]
/-- the j-th name with the j-th common shape -/
def Com (nm : List Str) (cm : List (V × Shp)) (f : Fld) : Prop := ∃ j : Nat, nm[j]? = some f.1 ∧ cm[j]? = some f.2
theorem Com.eq {nm : List Str} {cm : List (V × Shp)} (nd : nm.Nodup) {f g : Fld} (hf : Com nm cm f) (hg : Com nm cm g) (e : f.1 = g.1) : f = g := by
  obtain ⟨j, h1, h2⟩ := hf
  obtain ⟨k, h3, h4⟩ := hg
  rw [e] at h1
  have : j = k := nd_ix nd h1 h3
  subst this
  rw [h2] at h4
  exact Prod.ext e (Option.some.inj h4)
/-- what the maker of kinds is given -/
structure KArg (H : Hp) (b r fl nl cl bs : Addr) (rows : List FRow) (nm : List Str) (cm : List (V × Shp)) (l : List Str) : Prop where
  B : Box H b r
  hfl : H fl = some (.lst (rows.map fun k => V.ref k.da))
  hnl : H nl = some (.lst (nm.map V.str))
  hcl : H cl = some (.lst (cm.map (·.1)))
  hbs : H bs = some (.lst (l.map V.str))
  nfl : fl ≠ b
  nnl : nl ≠ b
  ncl : cl ≠ b
  nbs : bs ≠ b
  rat : ∀ k ∈ rows, FldAt H k.da k.fds
  r3 : rows.length ≤ 3
  n5 : nm.length = 5
  nnd : nm.Nodup
  c5 : cm.length = 5
  csh : ∀ c ∈ cm, ShAt H c.1 c.2 ∧ okS l 4 false c.2
  com : ∀ k ∈ rows, ∀ f ∈ k.fds, Com nm cm f
  rnd : ∀ k ∈ rows, (k.fds.map (·.1)).Nodup
  l0 : 0 < l.length
  l1 : l.length ≤ 1000
theorem KArg.gr {H H' : Hp} {b r fl nl cl bs : Addr} {rows : List FRow} {nm : List Str} {cm : List (V × Shp)} {l : List Str} (A : KArg H b r fl nl cl bs rows nm cm l) (g : Gr b H H') (B' : Box H' b r) : KArg H' b r fl nl cl bs rows nm cm l := by
  obtain ⟨xs, e⟩ := A.B.lst
  exact ⟨B', g _ _ A.nfl A.hfl, g _ _ A.nnl A.hnl, g _ _ A.ncl A.hcl, g _ _ A.nbs A.hbs, A.nfl, A.nnl, A.ncl, A.nbs, fun k m => (A.rat k m).gr (Oth.lst e) g, A.r3, A.n5, A.nnd, A.c5, fun c m => ⟨(A.csh c m).1.grO (Oth.lst e) g, (A.csh c m).2⟩, A.com, A.rnd, A.l0, A.l1⟩
section
variable {P : Program} {w : World} {K : PySem.W.Frag} {mg : Str → Option Value} {base : Heap}

def spLkind : Sp := fun vs H Q _ => ∃ (b r fl nl cl bs : Addr) (rows : List FRow) (nm : List Str) (cm : List (V × Shp)) (l : List Str) (m : Nat), vs = [.ref b, .ref fl, .ref nl, .ref cl, .ref bs, .int m] ∧ KArg H b r fl nl cl bs rows nm cm l ∧ m ≤ 4 ∧
  ∀ (t : Addr) (fds : List Fld) H', H t = none → FldAt H' t fds → 1 ≤ fds.length → fds.length ≤ 5 → (fds.map (·.1)).Nodup → (∀ f ∈ fds, f.1 ∈ nm ∧ okS l 4 false f.2.2) → (∀ k ∈ rows, ∀ f ∈ k.fds, f ∈ fds) → Gr b H H' → Box H' b r → Q (.ref t) H'
theorem ok_Lkind {f f1 f2 : Addr} {fd fd1 fd2 : FuncData} (D : Df K mg "_law_kind" s_Lkind f fd ["_law_box_here", "_law_faces", "_law_names", "_law_common", "_law_bases_here", "_law_most"]) (D_Ldraw : Df K mg "_law_draw" s_Ldraw f1 fd1 ["_law_box_here", "_law_many"])
    (D_Lshape : Df K mg "_law_shape" s_Lshape f2 fd2 ["_law_box_here", "_law_bases_here", "_law_most"]) (T : Nms mg) : FnOk P w K mg base CX0 3 f fd ["_law_box_here", "_law_faces", "_law_names", "_law_common", "_law_bases_here", "_law_most"] spLkind := by
  have G_Ldraw : FnOk P w K mg base CX0 1 f1 fd1 ["_law_box_here", "_law_many"] spLdraw := ok_Ldraw D_Ldraw T
  have G_Lshape : FnOk P w K mg base CX0 2 f2 fd2 ["_law_box_here", "_law_bases_here", "_law_most"] spLshape := ok_Lshape D_Lshape D_Ldraw T
  refine D.F.ok sc_Lkind (fun vs H Q E h => ?_) (fun cdv A outer s H vs Q E hr h => ?_)
  · obtain ⟨b, r, fl, nl, cl, bs, rows, nm, cm, l, m, rfl, _⟩ := h
    rfl
  · obtain ⟨b, r, fl, nl, cl, bs, rows, nm, cm, l, m, rfl, G, hm, q⟩ := h
    have hu := hu_of hr
    have hu0 := Nat.lt_of_le_of_lt (Nat.le_add_right _ 1) hu
    refine ⟨_, (pss_cons (ps_set (i := 6) sc_Lkind.nd rfl (.inl rfl) pe_dnewK)
      (pss_cons (ps_for PassesOwn.never rfl (pi_list (pv 1)) (pg_name (i := 7) sc_Lkind.nd rfl (.inl rfl))
       (pss_one (ps_lock (ps_for PassesOwn.never rfl (pi_keys (pv 7)) (pg_name (i := 8) sc_Lkind.nd rfl (.inl rfl))
         (pss_one (ps_dput hu (pv 6) (pv 8) (pe_dget hu (pv 7) (pv 8) (fun _ _ => rfl)) rfl))))))
      (pss_cons (ps_for PassesOwn.never rfl (pi_range1 (by rfl) T.n_range (pa_cons pe_int pa_nil)) (pg_name (i := 9) sc_Lkind.nd rfl (.inl rfl))
       (pss_one (ps_if (PW.pt (pw_and (pt_cmp (pc_dnotin hu (pe_ix ix_list (pv 2) (pv 9) (fun _ _ => rfl)) (pv 6)) rfl) (pw_and1 (pt_cmpR op_eq (pe_call G_Ldraw (hr.mono (by decide)) (by rfl) D_Ldraw.g D_Ldraw.F.kp D_Ldraw.b .nil pass0 (pa_cons (pv 0) (pa_cons pe_int pa_nil))) pe_int (nomark _)))))
         (pss_cons (ps_dput hu (pv 6) (pe_ix ix_list (pv 2) (pv 9) (fun _ _ => rfl)) (pe_ix ix_list (pv 3) (pv 9) (fun _ _ => rfl)) rfl)
          (pss_one (ps_if (pt_cmpR op_eq (pe_call G_Ldraw (hr.mono (by decide)) (by rfl) D_Ldraw.g D_Ldraw.F.kp D_Ldraw.b .nil pass0 (pa_cons (pv 0) (pa_cons pe_int pa_nil))) pe_int (nomark _))
           (pss_one (ps_dput hu (pv 6) (pe_ix ix_list (pv 2) (pv 9) (fun _ _ => rfl)) (pe_call G_Lshape (hr.mono (by decide)) (by rfl) D_Lshape.g D_Lshape.F.kp D_Lshape.b .nil pass0 (pa_cons (pv 0) (pa_cons (pv 4) (pa_cons (pv 5) pa_nil)))) rfl))
           pss_nil)))
         pss_nil)))
      (pss_cons (ps_if (pt_cmpR (op_eq_dict0 hu0) (pv 6) pe_dnewK (nomark _))
       (pss_cons (ps_set (i := 9) sc_Lkind.nd rfl (.inl rfl) (pe_call G_Ldraw (hr.mono (by decide)) (by rfl) D_Ldraw.g D_Ldraw.F.kp D_Ldraw.b .nil pass0 (pa_cons (pv 0) (pa_cons pe_int pa_nil))))
        (pss_one (ps_dput hu (pv 6) (pe_ix ix_list (pv 2) (pv 9) (fun _ _ => rfl)) (pe_ix ix_list (pv 3) (pv 9) (fun _ _ => rfl)) rfl)))
       pss_nil)
      (pss_one (ps_ret (pv 6))))))), ?_⟩
    refine fun t nt => ?_
    have ntb : t ≠ b := G.B.neb nt
    have ntr : t ≠ r := G.B.ner nt
    -- for face in faces
    refine ⟨.ref fl, rfl, fl, rfl, ⟨_, SqL.of (by rw [upd_ne (ne_of_none G.hfl nt)]; exact G.hfl)⟩, ?_⟩
    refine for_list (xs := rows.map fun k => V.ref k.da) (fun i σ H' => ∃ (y7 y8 y9 : Option V) (fds : List Fld), σ = [some (.ref b), some (.ref fl), some (.ref nl), some (.ref cl), some (.ref bs), some (.int m), some (.ref t), y7, y8, y9] ∧ H' = upd H t (.dK (fkv fds)) ∧ (fds.map (·.1)).Nodup ∧
      (∀ f ∈ fds, Com nm cm f ∧ ShAt H f.2.1 f.2.2) ∧ ∀ k ∈ rows.take i, ∀ f ∈ k.fds, f ∈ fds) ⟨none, none, none, [], rfl, rfl, List.nodup_nil, (fun f m => by cases m), (fun k m => by simp at m)⟩ ?_ ?_ ?_
    · rintro i σ H' _ ⟨_, _, _, fds, _, rfl, _⟩
      exact SqL.of (by rw [upd_ne (ne_of_none G.hfl nt)]; exact G.hfl)
    · rintro i x σ H' ex ⟨y7, y8, y9, fds, rfl, rfl, hnd, hf, hall⟩
      rw [List.getElem?_map] at ex
      cases er : rows[i]? with
      | none => rw [er] at ex; cases ex
      | some row =>
        rw [er] at ex
        cases ex
        have hm' := List.mem_of_getElem? er
        have hrat := G.rat row hm'
        have nrt : row.da ≠ t := ne_of_none hrat.at_ nt
        have hd : (upd H t (.dK (fkv fds))) row.da = some (.dK (fkv row.fds)) := by rw [upd_ne nrt]; exact hrat.at_
        refine ⟨row.da, .dK (fkv row.fds), hd, trivial, fun od => ⟨.ref row.da, rfl, row.da, od, rfl, .inl ⟨fkv row.fds, upd_same, ?_⟩⟩⟩
        have hrl : (fkv row.fds).length = row.fds.length := List.length_map ..
        refine for_it walk_keys (fun j σ H' => ∃ (y8 : Option V) (fds : List Fld), σ = [some (.ref b), some (.ref fl), some (.ref nl), some (.ref cl), some (.ref bs), some (.int m), some (.ref t), some (.ref row.da), y8, y9] ∧ H' = upd (upd H t (.dK (fkv fds))) row.da (.frz od (.dK (fkv row.fds))) ∧ (fds.map (·.1)).Nodup ∧
          (∀ f ∈ fds, Com nm cm f ∧ ShAt H f.2.1 f.2.2) ∧ (∀ k ∈ rows.take i, ∀ f ∈ k.fds, f ∈ fds) ∧ ∀ f ∈ row.fds.take j, f ∈ fds) ⟨y8, fds, rfl, rfl, hnd, hf, hall, (fun f m => by simp at m)⟩ ?_ ?_ ?_
        · rintro j σ H' _ ⟨_, fds, _, rfl, _⟩
          exact upd_same
        · rintro j x σ H3 H4 hj ⟨y8, fds, rfl, e3, hnd, hf, hall, hpre⟩ ⟨e4, k, v, e, rfl⟩
          subst e4
          subst e3
          obtain ⟨f, ef, rfl, rfl⟩ := fkv_at e
          have fm := List.mem_of_getElem? ef
          have htt : (upd (upd H t (.dK (fkv fds))) row.da (.frz od (.dK (fkv row.fds)))) t = some (.dK (fkv fds)) := by rw [upd_ne nrt.symm, upd_same]
          have few : fds.length ≤ 5 := by
            have := len_le_of_sub hnd (m := nm) fun z hz => by
              obtain ⟨y, hy, rfl⟩ := List.mem_map.mp hz
              obtain ⟨⟨j, h1, _⟩, _⟩ := hf y hy
              exact List.mem_of_getElem? h1
            rw [List.length_map, G.n5] at this
            exact this
          refine ⟨.ref row.da, rfl, .str f.1, rfl, row.da, f.2.1, rfl, .inl ⟨fkv row.fds, .inr f.1, .inr ⟨od, upd_same⟩, rfl, (fkv_val (G.rnd row hm') fm).symm⟩, .ref t, rfl, .str f.1, rfl, t, _, rfl, DPut.k (k := Sum.inr f.1) htt ?_, ?_⟩
          · rw [show (fkv fds).length = fds.length from List.length_map ..]
            exact Nat.lt_of_le_of_lt (show fds.length ≤ 1000 by omega) (by decide)
          · refine ⟨_, putFl fds f, rfl, ?_, putFl_nd hnd, fun x hx => ?_, fun k hk x hx => ?_, fun x hx => ?_⟩
            · rw [putFl_kv, upd_comm nrt, upd_upd, upd_comm nrt.symm]
            · rcases putFl_mem hx with rfl | ⟨hx, _⟩
              · exact ⟨G.com row hm' _ fm, hrat.sh _ fm⟩
              · exact hf x hx
            · by_cases ek : x.1 = f.1
              · rw [Com.eq G.nnd (hf x (hall k hk x hx)).1 (G.com row hm' f fm) ek]
                exact putFl_has fds f
              · exact putFl_old (hall k hk x hx) ek
            · rw [List.take_add_one, ef] at hx
              rcases List.mem_append.mp hx with hx | hx
              · by_cases ek : x.1 = f.1
                · rw [Com.eq G.nnd (hf x (hpre x hx)).1 (G.com row hm' f fm) ek]
                  exact putFl_has fds f
                · exact putFl_old (hpre x hx) ek
              · obtain rfl : x = f := by simpa using hx
                exact putFl_has fds _
        · rintro σ H3 ⟨y8, fds, rfl, e3, hnd, hf, hall, hpre⟩
          subst e3
          refine ⟨upd_same, some (.ref row.da), y8, y9, fds, rfl, ?_, hnd, hf, fun k hk x hx => ?_⟩
          · rw [upd_upd]
            exact upd_id (by rw [upd_ne nrt]; exact hrat.at_)
          · rw [List.take_add_one, er] at hk
            rcases List.mem_append.mp hk with hk | hk
            · exact hall k hk x hx
            · obtain rfl : k = row := by simpa using hk
              rw [hrl, List.take_length] at hpre
              exact hpre x hx
    · rintro σ H1 ⟨y7, y8, y9, fds, rfl, e1, hnd, hf, hall⟩
      rw [List.length_map, List.take_length] at hall
      have gt : Gr b H H1 := by rw [e1]; exact Gr.new nt
      have B1 : Box H1 b r := by rw [e1]; exact G.B.new nt
      have ht1 : H1 t = some (.dK (fkv fds)) := by rw [e1]; exact upd_same
      obtain ⟨bx, hbx⟩ := G.B.lst
      have hf1 : ∀ f ∈ fds, f.1 ∈ nm ∧ okS l 4 false f.2.2 ∧ ShAt H1 f.2.1 f.2.2 := fun f m => by
        obtain ⟨⟨j, h1, h2⟩, h3⟩ := hf f m
        exact ⟨List.mem_of_getElem? h1, (G.csh _ (List.mem_of_getElem? h2)).2, h3.grO (Oth.lst hbx) gt⟩
      clear e1 hf
      -- for k in range(5)
      refine ⟨5, rfl, by decide, by decide, for_range (lo := 0) (n := 5) (fun i σ H' => ∃ (y7 y8 y9 : Option V) (fds : List Fld), σ = [some (.ref b), some (.ref fl), some (.ref nl), some (.ref cl), some (.ref bs), some (.int m), some (.ref t), y7, y8, y9] ∧ H' t = some (.dK (fkv fds)) ∧ (fds.map (·.1)).Nodup ∧
        (∀ f ∈ fds, f.1 ∈ nm ∧ okS l 4 false f.2.2 ∧ ShAt H' f.2.1 f.2.2) ∧ (∀ k ∈ rows, ∀ f ∈ k.fds, f ∈ fds) ∧ Gr b H H' ∧ Box H' b r) ⟨y7, y8, y9, fds, rfl, ht1, hnd, hf1, hall, gt, B1⟩ ?_ ?_⟩
      · rintro i σ H2 hi ⟨y7, y8, y9, fds, rfl, ht, hnd, hf, hall, g, B2⟩
        have A2 := G.gr g B2
        have hni : nm[i]? = some (nm[i]'(by rw [G.n5]; exact hi)) := List.getElem?_eq_getElem _
        have hci : cm[i]? = some (cm[i]'(by rw [G.c5]; exact hi)) := List.getElem?_eq_getElem _
        generalize nm[i]'(by rw [G.n5]; exact hi) = z at hni
        generalize cm[i]'(by rw [G.c5]; exact hi) = c at hci
        have hzm := List.mem_of_getElem? hni
        have hcm := List.mem_of_getElem? hci
        have few : ∀ {fds : List Fld}, (fds.map (·.1)).Nodup → (∀ f ∈ fds, f.1 ∈ nm) → fds.length ≤ 5 := fun {fds} h1 h2 => by
          have := len_le_of_sub h1 (m := nm) fun z hz => by
            obtain ⟨y, hy, rfl⟩ := List.mem_map.mp hz
            exact h2 y hy
          rw [List.length_map, G.n5] at this
          exact this
        have atN : ∀ {H' : Hp}, H' nl = some (.lst (nm.map V.str)) → SqL K H' nl (nm.map V.str) := fun h => SqL.of h
        have an : atI (nm.map V.str) (0 + (i : Int)) = some (.str z) := at_of (j := i) (by omega) (by rw [List.getElem?_map, hni]; rfl)
        have ac : atI (cm.map (·.1)) (0 + (i : Int)) = some c.1 := at_of (j := i) (by omega) (by rw [List.getElem?_map, hci]; rfl)
        refine ⟨.ref nl, rfl, _, rfl, nl, _, _, .str z, rfl, rfl, SqL.of A2.hnl, an, .ref t, rfl, t, valV (fkv fds) (Sum.inr z), rfl, DGet.k (k := Sum.inr z) ht, _, rfl, ?_⟩
        by_cases hz : z ∈ fds.map (·.1)
        · -- it is there
          have : (valV (fkv fds) (Sum.inr z)).isSome = true := by
            obtain ⟨f, hfm, rfl⟩ := List.mem_map.mp hz
            rw [fkv_val hnd hfm]
            rfl
          rw [this]
          exact iteF ⟨y7, y8, _, fds, rfl, ht, hnd, hf, hall, g, B2⟩
        · have : valV (fkv fds) (Sum.inr z) = none := valV_out (f := fun f : Fld => f.1) (g := fun f => f.2.1) hz
          rw [this]
          refine iteT ⟨.ref b, rfl, b, r, 2, rfl, B2, by decide, by decide, fun d H3 d0 d1 g3 B3 => ⟨rfl, _, rfl, ite2 (fun e => ?_) (fun e => ?_)⟩⟩
          · have A3 := A2.gr g3 B3
            have ht3 := g3 _ _ ntb ht
            obtain ⟨bx, hbx2⟩ := B2.lst
            have hf3 : ∀ f ∈ fds, f.1 ∈ nm ∧ okS l 4 false f.2.2 ∧ ShAt H3 f.2.1 f.2.2 := fun f m => ⟨(hf f m).1, (hf f m).2.1, (hf f m).2.2.grO (Oth.lst hbx2) g3⟩
            have fl5 := few hnd fun f m => (hf f m).1
            -- table[names[k]] = common[k]
            refine ⟨.ref cl, rfl, _, rfl, cl, _, _, c.1, rfl, rfl, SqL.of A3.hcl, ac, .ref t, rfl, .ref nl, rfl, _, rfl, nl, _, _, .str z, rfl, rfl, SqL.of A3.hnl, an, t, _, rfl, DPut.k (k := Sum.inr z) ht3 ?_, ?_⟩
            · rw [show (fkv fds).length = fds.length from List.length_map ..]
              exact Nat.lt_of_le_of_lt (show fds.length ≤ 1000 by omega) (by decide)
            have g4 : Gr b H (upd H3 t (.dK (putK (fkv fds) (Sum.inr z) c.1))) := (g.trans g3).upd nt
            have B4 : Box (upd H3 t (.dK (putK (fkv fds) (Sum.inr z) c.1))) b r := B3.upd ntb ntr
            have ht4 : (upd H3 t (.dK (putK (fkv fds) (Sum.inr z) c.1))) t = some (.dK (fkv (putFl fds (z, c)))) := by rw [upd_same]; exact congrArg (fun z => some (HO.dK z)) (putFl_kv fds (z, c))
            have sh4 : ∀ {v : V} {s : Shp}, ShAt H3 v s → ShAt (upd H3 t (.dK (putK (fkv fds) (Sum.inr z) c.1))) v s := fun h => h.gr (xs := []) (.inr ⟨_, ht3⟩) Gr.box
            have hf4 : ∀ f ∈ putFl fds (z, c), f.1 ∈ nm ∧ okS l 4 false f.2.2 ∧ ShAt (upd H3 t (.dK (putK (fkv fds) (Sum.inr z) c.1))) f.2.1 f.2.2 := fun f m => by
              rcases putFl_mem m with rfl | ⟨m, _⟩
              · exact ⟨hzm, (A3.csh c hcm).2, sh4 (A3.csh c hcm).1⟩
              · exact ⟨(hf3 f m).1, (hf3 f m).2.1, sh4 (hf3 f m).2.2⟩
            have hnd4 := putFl_nd (f := (z, c)) hnd
            have hall4 : ∀ k ∈ rows, ∀ f ∈ k.fds, f ∈ putFl fds (z, c) := fun k hk f hfk => putFl_old (hall k hk f hfk) fun e => hz (by rw [← (show f.1 = z from e)]; exact List.mem_map.mpr ⟨f, hall k hk f hfk, rfl⟩)
            generalize upd H3 t (.dK (putK (fkv fds) (Sum.inr z) c.1)) = H4 at g4 B4 ht4 hf4
            -- if draw(box, 2) == 1
            refine ⟨.ref b, rfl, b, r, 2, rfl, B4, by decide, by decide, fun d2 H5 d20 d21 g5 B5 => ⟨rfl, _, rfl, ite2 (fun e2 => ?_) (fun e2 => ?_)⟩⟩
            · have A5 := (G.gr g4 B4).gr g5 B5
              refine ⟨.ref b, rfl, .ref bs, rfl, .int m, rfl, b, r, bs, l, m, rfl, B5, A5.hbs, G.nbs, G.l0, G.l1, hm, fun v s H6 hv hs g6 B6 => ?_⟩
              have A6 := A5.gr g6 B6
              have ht6 := (g5.trans g6) _ _ ntb ht4
              have fl6 := few hnd4 fun f m => (hf4 f m).1
              refine ⟨.ref t, rfl, .ref nl, rfl, _, rfl, nl, _, _, .str z, rfl, rfl, SqL.of A6.hnl, an, t, _, rfl, DPut.k (k := Sum.inr z) ht6 ?_, ?_⟩
              · rw [show (fkv (putFl fds (z, c))).length = (putFl fds (z, c)).length from List.length_map ..]
                exact Nat.lt_of_le_of_lt (show (putFl fds (z, c)).length ≤ 1000 by omega) (by decide)
              obtain ⟨bx4, hbx4⟩ := B4.lst
              have sh7 : ∀ {v' : V} {s' : Shp}, ShAt H6 v' s' → ShAt (upd H6 t (.dK (putK (fkv (putFl fds (z, c))) (Sum.inr z) v))) v' s' := fun h => h.gr (xs := []) (.inr ⟨_, ht6⟩) Gr.box
              refine ⟨y7, y8, _, putFl (putFl fds (z, c)) (z, v, s), rfl, ?_, putFl_nd hnd4, fun f m => ?_, fun k hk f hfk => ?_, ((g4.trans g5).trans g6).upd nt, B6.upd ntb ntr⟩
              · rw [upd_same]
                exact congrArg (fun z => some (HO.dK z)) (putFl_kv (putFl fds (z, c)) (z, v, s))
              · rcases putFl_mem m with rfl | ⟨m, _⟩
                · exact ⟨hzm, hs, sh7 hv⟩
                · exact ⟨(hf4 f m).1, (hf4 f m).2.1, sh7 ((hf4 f m).2.2.grO (Oth.lst hbx4) (g5.trans g6))⟩
              · exact putFl_old (hall4 k hk f hfk) fun e => hz (by rw [← (show f.1 = z from e)]; exact List.mem_map.mpr ⟨f, hall k hk f hfk, rfl⟩)
            · obtain ⟨bx4, hbx4⟩ := B4.lst
              exact ⟨y7, y8, _, putFl fds (z, c), rfl, g5 _ _ ntb ht4, hnd4, fun f m => ⟨(hf4 f m).1, (hf4 f m).2.1, (hf4 f m).2.2.grO (Oth.lst hbx4) g5⟩, hall4, g4.trans g5, B5⟩
          · obtain ⟨bx, hbx2⟩ := B2.lst
            exact ⟨y7, y8, _, fds, rfl, g3 _ _ ntb ht, hnd, fun f m => ⟨(hf f m).1, (hf f m).2.1, (hf f m).2.2.grO (Oth.lst hbx2) g3⟩, hall, g.trans g3, B3⟩
      · rintro σ H2 ⟨y7, y8, y9, fds, rfl, ht, hnd, hf, hall, g, B2⟩
        have few : ∀ {fds : List Fld}, (fds.map (·.1)).Nodup → (∀ f ∈ fds, f.1 ∈ nm) → fds.length ≤ 5 := fun {fds} h1 h2 => by
          have := len_le_of_sub h1 (m := nm) fun z hz => by
            obtain ⟨y, hy, rfl⟩ := List.mem_map.mp hz
            exact h2 y hy
          rw [List.length_map, G.n5] at this
          exact this
        have fl5 := few hnd fun f m => (hf f m).1
        -- if table == {}
        refine ⟨.ref t, rfl, fun p np => ⟨t, p, fkv fds, rfl, rfl, by rw [upd_ne (ne_of_none ht np)]; exact ht, upd_same, _, rfl, ite2 (fun e => ?_) (fun e => ?_)⟩⟩
        · have e0 : fds = [] := by
            have h1 : (fkv fds).length = 0 := eq_of_beq e
            rw [show (fkv fds).length = fds.length from List.length_map ..] at h1
            exact List.length_eq_zero_iff.mp h1
          subst e0
          have g3 : Gr b H (upd H2 p (.dK [])) := g.trans (Gr.new np)
          have B3 : Box (upd H2 p (.dK [])) b r := B2.new np
          have ht3 : (upd H2 p (.dK [])) t = some (.dK (fkv [])) := by rw [upd_ne (ne_of_none ht np)]; exact ht
          generalize upd H2 p (.dK []) = H3 at g3 B3 ht3
          refine ⟨.ref b, rfl, b, r, 5, rfl, B3, by decide, by decide, fun k H4 k0 k1 g4 B4 => ?_⟩
          obtain ⟨k, rfl⟩ := Int.eq_ofNat_of_zero_le k0
          have hk5 : k < 5 := by omega
          have A4 := (G.gr g3 B3).gr g4 B4
          have hni : nm[k]? = some (nm[k]'(by rw [G.n5]; exact hk5)) := List.getElem?_eq_getElem _
          have hci : cm[k]? = some (cm[k]'(by rw [G.c5]; exact hk5)) := List.getElem?_eq_getElem _
          generalize nm[k]'(by rw [G.n5]; exact hk5) = z at hni
          generalize cm[k]'(by rw [G.c5]; exact hk5) = c at hci
          have an : atI (nm.map V.str) (k : Int) = some (.str z) := atI_nat (by rw [List.getElem?_map, hni]; rfl)
          have ac : atI (cm.map (·.1)) (k : Int) = some c.1 := atI_nat (by rw [List.getElem?_map, hci]; rfl)
          have ht4 := g4 _ _ ntb ht3
          refine ⟨.ref cl, rfl, _, rfl, cl, _, _, c.1, rfl, rfl, SqL.of A4.hcl, ac, .ref t, rfl, .ref nl, rfl, _, rfl, nl, _, _, .str z, rfl, rfl, SqL.of A4.hnl, an, t, _, rfl, DPut.k (k := Sum.inr z) ht4 (by show 0 < sizeLine; decide), ?_⟩
          have sh5 := (A4.csh c (List.mem_of_getElem? hci)).1.gr (xs := []) (H' := upd H4 t (.dK (putK (fkv []) (Sum.inr z) c.1))) (.inr ⟨_, ht4⟩) Gr.box
          refine ⟨.ref t, rfl, q t [(z, c)] _ nt ⟨?_, fun f m => ?_⟩ (Nat.le_refl 1) (by show 1 ≤ 5; decide) (by simp) (fun f m => ?_) (fun k' hk' f hf' => absurd (hall k' hk' f hf') (by simp)) ((g3.trans g4).upd nt) (B4.upd ntb ntr)⟩
          · rw [upd_same]
            rfl
          · obtain rfl := List.mem_singleton.mp m
            exact sh5
          · obtain rfl := List.mem_singleton.mp m
            exact ⟨List.mem_of_getElem? hni, (A4.csh c (List.mem_of_getElem? hci)).2⟩
        · have h1 : fds ≠ [] := fun z => by
            subst z
            exact e rfl
          have hp : 1 ≤ fds.length := List.length_pos_iff.mpr h1
          have sm := same_new (o := .dK []) np
          refine ⟨.ref t, rfl, q t fds _ nt ⟨sm _ _ ht, fun f m => (hf f m).2.2.same sm⟩ hp fl5 hnd (fun f m => ⟨(hf f m).1, (hf f m).2.1⟩) hall (g.trans (Gr.new np)) (B2.new np)⟩
end
end NW
namespace NW
open PySem PySem.Spec PyProof.Rows L2
open TL (tl)
abbrev s_Lwords : Stmt := topS 73
abbrev N_Lwords : List Str := ["_law_box_here", "_law_many", "_law_letters", "_law_shift", "_law_front", "_law_words_here", "_law_k", "_law_size", "_law_rest", "_law_sign", "_law_word", "_law_j"]
theorem sc_Lwords : FnScope N_Lwords ["_law_box_here", "_law_many"] (defScope s_Lwords) := ⟨rfl, rfl, rfl, by decide +kernel, rfl, by decide +kernel, by decide +kernel⟩
section
variable {P : Program} {w : World} {K : PySem.W.Frag} {mg : Str → Option Value} {base : Heap}
def spLwords : Sp := fun vs H Q _ => ∃ (b r : Addr) (n : Nat), vs = [.ref b, .int n] ∧ Box H b r ∧ n ≤ 26 ∧
  ∀ (ws : List Str) (p : Addr) H', ws.length = n → (∀ z ∈ ws, IsName z ∧ z ≠ "text" ∧ z ≠ "number") → ws.Nodup → Gr b H H' → Box H' b r → H p = none → H' p = some (.lst (ws.map V.str)) → Q (.ref p) H'
theorem ok_Lwords {f f1 : Addr} {fd fd1 : FuncData} (D : Df K mg "_law_words" s_Lwords f fd ["_law_box_here", "_law_many"]) (D_Ldraw : Df K mg "_law_draw" s_Ldraw f1 fd1 ["_law_box_here", "_law_many"]) (T : Nms mg) : FnOk P w K mg base CX0 2 f fd ["_law_box_here", "_law_many"] spLwords := by
  have G_Ldraw : FnOk P w K mg base CX0 1 f1 fd1 ["_law_box_here", "_law_many"] spLdraw := ok_Ldraw D_Ldraw T
  refine D.F.ok sc_Lwords (fun vs H Q E h => ?_) (fun cdv A outer s H vs Q E hr h => ?_)
  · obtain ⟨b, r, m, rfl, _⟩ := h
    rfl
  · obtain ⟨b, r, n, rfl, B, hn, q⟩ := h
    refine ⟨_, (pss_cons (ps_set (i := 2) sc_Lwords.nd rfl (.inr rfl) pe_str)
      (pss_cons (ps_set (i := 3) sc_Lwords.nd rfl (.inl rfl) (pe_call G_Ldraw (hr.mono (by decide)) (by rfl) D_Ldraw.g D_Ldraw.F.kp D_Ldraw.b .nil pass0 (pa_cons (pv 0) (pa_cons pe_int pa_nil))))
      (pss_cons (ps_set (i := 4) sc_Lwords.nd rfl (.inl rfl) (pe_call G_Ldraw (hr.mono (by decide)) (by rfl) D_Ldraw.g D_Ldraw.F.kp D_Ldraw.b .nil pass0 (pa_cons (pv 0) (pa_cons pe_int pa_nil))))
      (pss_cons (ps_set (i := 5) sc_Lwords.nd rfl (.inl rfl) (pe_lst pa_nil))
      (pss_cons (ps_for PassesOwn.never rfl (pi_range1 (by rfl) T.n_range (pa_cons (pv 1) pa_nil)) (pg_name (i := 6) sc_Lwords.nd rfl (.inl rfl))
       (pss_cons (ps_set (i := 7) sc_Lwords.nd rfl (.inl rfl) (pe_ix ix_list (pe_lst (pa_cons pe_int (pa_cons pe_int (pa_cons pe_int (pa_cons pe_int pa_nil))))) (pe_call G_Ldraw (hr.mono (by decide)) (by rfl) D_Ldraw.g D_Ldraw.F.kp D_Ldraw.b .nil pass0 (pa_cons (pv 0) (pa_cons pe_int pa_nil))) (fun _ _ => rfl)))
        (pss_cons (ps_set (i := 8) sc_Lwords.nd rfl (.inl rfl) (pe_join pe_str (pe_lc (own := [("_law_j", 11)]) (g := (gName 11)) (tt := tYes) rfl sc_Lwords.nd (pi_range1 (by rfl) T.n_range (pa_cons (pv 7) pa_nil)) (blkOk_by (own := [("_law_j", 11)]) (N := N_Lwords) (sc := defScope s_Lwords) (by decide +kernel)) (fun _ _ _ _ _ => (pg_name (i := 11) sc_Lwords.nd rfl (.inl rfl))) (fun _ _ _ _ _ => pts_nil) (fun _ _ _ _ _ => (pe_ix ix_str (pv 2) (pe_call G_Ldraw (hr.mono (by decide)) (by rfl) D_Ldraw.g D_Ldraw.F.kp D_Ldraw.b .nil pass0 (pa_cons (pv 0) (pa_cons pe_int pa_nil))) (fun _ _ => rfl))))))
        (pss_cons (ps_set (i := 9) sc_Lwords.nd rfl (.inl rfl) (pe_ix ix_str (pv 2) (pe_op op_modN (pe_callTy call_int1 (by rfl) T.n_int (by decide +kernel) (pa_cons (pe_op op_add (pv 3) (pv 6)) pa_nil)) pe_int) (fun _ _ => rfl)))
        (pss_cons (ps_set (i := 10) sc_Lwords.nd rfl (.inl rfl) (pe_ix ix_list (pe_lst (pa_cons (pe_op op_add_str (pv 8) (pv 9)) (pa_cons (pe_op op_add_str (pv 9) (pv 8)) pa_nil))) (pv 4) (fun _ _ => rfl)))
        (pss_one (ps_expr (pe_bm PySem.F.plainAttrs_list PySem.F.slot_list_append PySem.F.type_list_append mt_append (pv 5) (pa_cons (pe_ix ix_list (pe_lst (pa_cons (pv 10) (pa_cons (pv 9) pa_nil))) (pe_callTy call_int1 (by rfl) T.n_int (by decide +kernel) (pa_cons (pe_or (pe_cmpR op_eq (pv 10) pe_str (nomark _)) (pe_one (pe_cmpR op_eq (pv 10) pe_str (nomark _)))) pa_nil)) (fun _ _ => rfl)) pa_nil)))))))))
      (pss_one (ps_ret (pv 5)))))))), ?_⟩

    -- shift, front, words = []
    refine ⟨.ref b, rfl, b, r, 26, rfl, B, by decide, by decide, fun sh H1 h10 h11 g1 B1 => ?_⟩
    refine ⟨.ref b, rfl, b, r, 2, rfl, B1, by decide, by decide, fun fr H2 h20 h21 g2 B2 => ?_⟩
    refine ⟨Nat.zero_le _, fun p np => ?_⟩
    obtain ⟨sh, rfl⟩ := Int.eq_ofNat_of_zero_le h10
    obtain ⟨fr, rfl⟩ := Int.eq_ofNat_of_zero_le h20
    have hsh : sh < 26 := by omega
    have hfr : fr < 2 := by omega
    have g02 : Gr b H H2 := g1.trans g2
    have npb := B2.neb np
    have npr := B2.ner np
    have np0 : H p = none := g02.free npb np
    -- for k in range(many)
    refine ⟨.int n, rfl, n, rfl, by omega, by omega, for_range (lo := 0) (n := n) (fun i σ H' => ∃ y6 y7 y8 y9 y10 ws, σ = [some (.ref b), some (.int n), some (.str LET), some (.int sh), some (.int fr), some (.ref p), y6, y7, y8, y9, y10, none] ∧ ws.length = i ∧ WordsOk fr sh ws ∧ Gr b H H' ∧ Box H' b r ∧ H' p = some (.lst (ws.map V.str))) ?_ ?_ ?_⟩
    · exact ⟨none, none, none, none, none, [], rfl, rfl, fun k h => absurd h (Nat.not_lt_zero _), g02.trans (Gr.new np), B2.new np, upd_same⟩
    · rintro i σ H3 hi ⟨y6, y7, y8, y9, y10, ws, rfl, hl, hw, g3, B3, e3⟩
      -- size
      refine ⟨by show 4 ≤ sizeLine; decide, fun q1 nq1 => ?_⟩
      have n1b := B3.neb nq1
      refine ⟨.ref b, rfl, b, r, 4, rfl, B3.new nq1, by decide, by decide, fun d H4 d0 d1 g4 B4 => ?_⟩
      have hd : ∃ sz : Nat, sz ≤ 7 ∧ atI [V.int 0, V.int 1, V.int 2, V.int 7] d = some (.int sz) := by
        obtain ⟨j, rfl⟩ := Int.eq_ofNat_of_zero_le d0
        have hj : j < 4 := by omega
        match j, hj with
        | 0, _ => exact ⟨0, by decide, rfl⟩
        | 1, _ => exact ⟨1, by decide, rfl⟩
        | 2, _ => exact ⟨2, by decide, rfl⟩
        | 3, _ => exact ⟨7, by decide, rfl⟩
      obtain ⟨sz, hsz, hat⟩ := hd
      refine ⟨q1, _, d, .int sz, rfl, rfl, SqL.of (g4 _ _ n1b upd_same), hat, ?_⟩
      have g04 : Gr b H H4 := (g3.trans (Gr.new nq1)).trans g4
      have e4 : H4 p = some (.lst (ws.map V.str)) := g4 _ _ npb (by rw [upd_ne (ne_of_none e3 nq1)]; exact e3)
      -- rest = ''.join(..)
      refine ⟨⟨_, rfl⟩, .int sz, rfl, sz, rfl, by omega, by omega, fun D nD => ?_⟩
      have nDb := B4.neb nD
      have nDp : p ≠ D := ne_of_none e4 nD
      refine lc_range (lo := 0) (n := sz) (fun j H' => ∃ cs : List Nat, cs.length = j ∧ (∀ c ∈ cs, 97 ≤ c ∧ c ≤ 122) ∧ Gr b H H' ∧ Box H' b r ∧ H' p = some (.lst (ws.map V.str)) ∧ H' D = some (.lst ((cs.map fun c => sgn c).map V.str))) ?_ ?_ ?_
      · exact ⟨[], rfl, (fun c h => by cases h), g04.trans (Gr.new nD), B4.new nD, by rw [upd_ne nDp]; exact e4, upd_same⟩
      · rintro j H5 hj ⟨cs, hcl, hcs, g5, B5, e5, eD⟩
        refine ⟨rfl, lcT ?_⟩
        refine ⟨.str LET, rfl, .ref b, rfl, b, r, 26, rfl, B5, by decide, by decide, fun c H6 c0 c1 g6 B6 => ?_⟩
        obtain ⟨c, rfl⟩ := Int.eq_ofNat_of_zero_le c0
        refine ⟨LET, c, 97 + c, rfl, rfl, let_len, atI_nat (let_at (by omega)), ?_⟩
        have eD6 := g6 _ _ nDb eD
        refine ⟨_, eD6, ?_, cs ++ [97 + c], ?_, ?_, ?_, ?_, ?_, ?_⟩
        · rw [List.length_map, List.length_map]
          exact Nat.lt_of_le_of_lt (show cs.length ≤ 1000 by omega) (by decide)
        · rw [List.length_append, hcl]; rfl
        · intro x hx
          rcases List.mem_append.mp hx with hx | hx
          · exact hcs x hx
          · have := List.mem_singleton.mp hx
            omega
        · exact (g5.trans g6).upd (g04.free nDb nD)
        · exact B6.upd nDb (B4.ner nD)
        · rw [upd_ne nDp]
          exact g6 _ _ npb e5
        · rw [upd_same, List.map_append, List.map_append]
          rfl
      · rintro H5 ⟨cs, hcl, hcs, g5, B5, e5, eD⟩
        refine ⟨"", D, cs.map fun c => sgn c, rfl, rfl, .inl (SqL.of eD), ?_, ?_⟩
        · rw [show ((cs.map fun c => sgn c).map fun x => x.length) = (cs.map fun c => sgn c).map Str.length from rfl, sgn_sum, List.length_map]
          have : ("" : Str).length = 0 := by decide +kernel
          rw [this]
          omega
        generalize hrest : Txt.join "" (cs.map fun c => sgn c) = rest
        have htl : tl rest = cs := by rw [← hrest, joinE]
        have hrl : rest.length = cs.length := by rw [len_tl, htl]
        -- sign
        have hm := fmod_range (a := (sh : Int) + (0 + i)) (show (0 : Int) < 26 by decide)
        have em : ((sh : Int) + (0 + i)).fmod 26 = (((sh + i) % 26 : Nat) : Int) := by
          rw [Int.fmod_eq_emod_of_nonneg _ (by decide)]
          omega
        refine ⟨.str LET, rfl, .int sh, rfl, .int (0 + i), rfl, _, _, rfl, rfl, .inl ⟨_, rfl, _, _, rfl, rfl, nz rfl, LET, _, 97 + (sh + i) % 26, rfl, rfl, let_len, ?_, ?_⟩⟩
        · show atI LET.cps.toList (((sh : Int) + (0 + i)).fmod 26) = _
          rw [em]
          exact atI_nat (let_at (Nat.mod_lt _ (by decide)))
        have ht26 : (sh + i) % 26 < 26 := Nat.mod_lt _ (by decide)
        -- word
        have lens : rest.length + (sgn (97 + (sh + i) % 26)).length ≤ sizeLine := by
          rw [hrl, show (sgn (97 + (sh + i) % 26)).length = 1 from rfl]
          exact Nat.le_trans (show cs.length + 1 ≤ 1000 by omega) (by decide)
        refine ⟨.str rest, rfl, .str (sgn _), rfl, _, _, rfl, rfl, lens, .str (sgn _), rfl, .str rest, rfl, _, _, rfl, rfl, by omega, ?_⟩
        refine ⟨by show 2 ≤ sizeLine; decide, fun q2 nq2 => ?_⟩
        generalize ht : (sh + i) % 26 = t at *
        refine ⟨.int fr, rfl, q2, _, fr, .str (if fr = 0 then rest ++ sgn (97 + t) else sgn (97 + t) ++ rest), rfl, rfl, SqL.of upd_same, ?_, ?_⟩
        · match fr, hfr with
          | 0, _ => rfl
          | 1, _ => rfl
        -- words.append(..)
        have n2p : p ≠ q2 := ne_of_none e5 nq2
        have e6 : (upd H5 q2 (.lst [V.str (rest ++ sgn (97 + t)), V.str (sgn (97 + t) ++ rest)])) p = some (.lst (ws.map V.str)) := by rw [upd_ne n2p]; exact e5
        have g6 : Gr b H (upd H5 q2 (.lst [V.str (rest ++ sgn (97 + t)), V.str (sgn (97 + t) ++ rest)])) := g5.trans (Gr.new nq2)
        have B6 : Box (upd H5 q2 (.lst [V.str (rest ++ sgn (97 + t)), V.str (sgn (97 + t) ++ rest)])) b r := B5.new nq2
        generalize upd H5 q2 (.lst [V.str (rest ++ sgn (97 + t)), V.str (sgn (97 + t) ++ rest)]) = H6 at *
        generalize hword : (if fr = 0 then rest ++ sgn (97 + t) else sgn (97 + t) ++ rest) = word
        refine ⟨.ref p, rfl, .inl ⟨rfl, _, SqL.of e6⟩, .str word, rfl, .str (sgn _), rfl, by show 2 ≤ sizeLine; decide, fun q3 nq3 => ?_⟩
        have n3p : p ≠ q3 := ne_of_none e6 nq3
        have e7 : (upd H6 q3 (.lst [V.str word, V.str (sgn (97 + t))])) p = some (.lst (ws.map V.str)) := by rw [upd_ne n3p]; exact e6
        have fin : ∀ z, GoodW fr t z → ∃ y6 y7 y8 y9 y10 ws', ([some (V.ref b), some (V.int n), some (V.str LET), some (V.int sh), some (V.int fr), some (V.ref p), some (V.int (0 + i)), some (V.int sz), some (V.str rest), some (V.str (sgn (97 + t))), some (V.str word), none] : L2.St) = [some (V.ref b), some (V.int n), some (V.str LET), some (V.int sh), some (V.int fr), some (V.ref p), y6, y7, y8, y9, y10, none] ∧ ws'.length = i + 1 ∧ WordsOk fr sh ws' ∧ Gr b H (upd (upd H6 q3 (.lst [V.str word, V.str (sgn (97 + t))])) p (.lst (ws.map V.str ++ [V.str z]))) ∧ Box (upd (upd H6 q3 (.lst [V.str word, V.str (sgn (97 + t))])) p (.lst (ws.map V.str ++ [V.str z]))) b r ∧ (upd (upd H6 q3 (.lst [V.str word, V.str (sgn (97 + t))])) p (.lst (ws.map V.str ++ [V.str z]))) p = some (.lst (ws'.map V.str)) := by
          intro z hz
          refine ⟨_, _, _, _, _, ws ++ [z], rfl, ?_, ?_, ?_, ?_, ?_⟩
          · rw [List.length_append, hl]; rfl
          · exact hw.snoc (by rw [hl, ht]; exact hz)
          · exact (g6.trans (Gr.new nq3)).upd np0
          · exact (B6.new nq3).upd npb npr
          · rw [upd_same, List.map_append]; rfl
        have lw : (ws.map V.str).length < sizeLine := by
          rw [List.length_map]
          exact Nat.lt_of_le_of_lt (show ws.length ≤ 1000 by omega) (by decide)
        refine ⟨.str word, rfl, rfl, _, rfl, ite2 (fun e => ?_) (fun e => ?_)⟩
        · refine .inr ⟨true, rfl, q3, _, _, .str (sgn (97 + t)), rfl, rfl, SqL.of upd_same, rfl, p, _, _, rfl, rfl, e7, lw, fin _ (sgn_good ht26)⟩
        · have nt : word ≠ "text" := fun z => e (decide_eq_true (congrArg V.str z))
          refine ⟨.str word, rfl, rfl, .inr ⟨_, rfl, ?_⟩⟩
          by_cases e2 : word = ("number" : Str)
          · rw [decide_eq_true (congrArg V.str e2)]
            exact ⟨q3, _, _, .str (sgn (97 + t)), rfl, rfl, SqL.of upd_same, rfl, p, _, _, rfl, rfl, e7, lw, fin _ (sgn_good ht26)⟩
          · rw [decide_eq_false (fun z => e2 (V.str.inj z))]
            refine ⟨q3, _, _, .str word, rfl, rfl, SqL.of upd_same, rfl, p, _, _, rfl, rfl, e7, lw, fin _ ?_⟩
            rw [← hword] at nt e2 ⊢
            exact word_good ht26 htl (by omega) hcs nt e2
    · rintro σ H3 ⟨y6, y7, y8, y9, y10, ws, rfl, hl, hw, g3, B3, e3⟩
      refine ⟨.ref p, rfl, q ws p H3 hl (fun z hz => ?_) (hw.nodup (by omega)) g3 B3 np0 e3⟩
      obtain ⟨k, hk, rfl⟩ := List.getElem_of_mem hz
      exact ⟨(hw k hk).nm, (hw k hk).nt, (hw k hk).nn⟩
end
end NW
namespace NW
open PySem PySem.Spec PyProof.Rows L2
open TL (tl)
open StX (pa_star)
abbrev s_Lschema : Stmt := topS 76
abbrev N_Lschema : List Str := ["_law_box_here", "_law_most", "_law_kinds", "_law_many", "_law_words_here", "_law_names", "_law_faces", "_law_unions", "_law_bases_here", "_law_common", "_law_face_table", "_law_face", "_law_k", "_law_at", "_law_row", "_law_kind_table", "_law_having", "_law_given", "_law_union_table", "_law_union", "_law_own", "_law_j", "_law_word"]
theorem sc_Lschema : FnScope N_Lschema ["_law_box_here", "_law_most", "_law_kinds"] (defScope s_Lschema) := ⟨rfl, rfl, rfl, by decide +kernel, rfl, by decide +kernel, by decide +kernel⟩
theorem cut_nat {xs : List V} {i j : Nat} (hi : i ≤ xs.length) (hj : j ≤ xs.length) : cutV xs (some (i : Int)) (some (j : Int)) = (xs.drop i).take (j - i) := by
  unfold cutV
  rw [HT.sIx_nat, HT.sIx_nat, Nat.min_eq_left hi, Nat.min_eq_left hj]
theorem cut_to {xs : List V} {j : Nat} (hj : j ≤ xs.length) : cutV xs none (some (j : Int)) = xs.take j := by
  unfold cutV
  rw [HT.sIx_nat, HT.sIx_none, Nat.min_eq_left hj, List.drop_zero, Nat.sub_zero]
theorem cut_to' {xs : List V} {j : Nat} : cutV xs none (some (j : Int)) = xs.take j := by
  unfold cutV
  rw [HT.sIx_nat, HT.sIx_none, List.drop_zero, Nat.sub_zero, List.take_eq_take_iff]
  omega
/-- all that is no dict stands, but for the box -/
def Gl (b : Addr) (H H' : Hp) : Prop := ∀ a o, a ≠ b → (∀ kvs, o ≠ .dK kvs) → H a = some o → H' a = some o
theorem Gr.gl {b : Addr} {H H' : Hp} (g : Gr b H H') : Gl b H H' := fun a o n _ e => g a o n e
theorem Gl.trans {b : Addr} {H H1 H2 : Hp} (x : Gl b H H1) (y : Gl b H1 H2) : Gl b H H2 := fun a o n k e => y a o n k (x a o n k e)
theorem Gl.upd {b D : Addr} {H : Hp} {kvs : List (Key × V)} {o : HO} (e : H D = some (.dK kvs)) : Gl b H (upd H D o) := fun a u _ k h => by
  rw [upd_ne (ne_of h e (k _))]
  exact h
theorem Gl.sh {b : Addr} {H H' : Hp} {xs : List V} (hb : H b = some (.lst xs)) (x : Gl b H H') : ∀ {s : Shp} {v : V}, ShAt H v s → ShAt H' v s := by
  intro s
  induction s with
  | base z => intro v h; exact h
  | sure s ih =>
    rintro v ⟨a, u, e, ha, hu⟩
    exact ⟨a, u, e, x _ _ (ne_of ha hb (by intro z; cases z)) (by intro _ z; cases z) ha, ih hu⟩
  | list s ih =>
    rintro v ⟨a, u, e, ha, hu⟩
    exact ⟨a, u, e, x _ _ (ne_of ha hb (by intro z; cases z)) (by intro _ z; cases z) ha, ih hu⟩
/-- what is drawn ahead of the tables -/
structure Pre (H : Hp) (b r wl nl fl ul bs cl : Addr) (ws nm fcs uns l : List Str) (cm : List (V × Shp)) : Prop where
  B : Box H b r
  hw : H wl = some (.lst (ws.map V.str))
  hn : H nl = some (.lst (nm.map V.str))
  hf : H fl = some (.lst (fcs.map V.str))
  hu : H ul = some (.lst (uns.map V.str))
  hb : H bs = some (.lst (l.map V.str))
  hc : H cl = some (.lst (cm.map (·.1)))
  n1 : wl ≠ b
  n2 : nl ≠ b
  n3 : fl ≠ b
  n4 : ul ≠ b
  n5 : bs ≠ b
  n6 : cl ≠ b
  csh : ∀ c ∈ cm, ShAt H c.1 c.2 ∧ okS l 4 false c.2
theorem Pre.gl {H H' : Hp} {b r wl nl fl ul bs cl : Addr} {ws nm fcs uns l : List Str} {cm : List (V × Shp)} (p : Pre H b r wl nl fl ul bs cl ws nm fcs uns l cm) (g : Gl b H H') (B' : Box H' b r) : Pre H' b r wl nl fl ul bs cl ws nm fcs uns l cm := by
  obtain ⟨xs, e⟩ := p.B.lst
  exact ⟨B', g _ _ p.n1 (by intro _ z; cases z) p.hw, g _ _ p.n2 (by intro _ z; cases z) p.hn, g _ _ p.n3 (by intro _ z; cases z) p.hf, g _ _ p.n4 (by intro _ z; cases z) p.hu, g _ _ p.n5 (by intro _ z; cases z) p.hb, g _ _ p.n6 (by intro _ z; cases z) p.hc, p.n1, p.n2, p.n3, p.n4, p.n5, p.n6, fun c m => ⟨g.sh e (p.csh c m).1, (p.csh c m).2⟩⟩
theorem rows_of {frs : List FRow} : ∀ {hv : List Str}, (∀ z ∈ hv, z ∈ frs.map (·.nm)) → ∃ rows : List FRow, rows.map (·.nm) = hv ∧ ∀ k ∈ rows, k ∈ frs
  | [], _ => ⟨[], rfl, fun k m => by cases m⟩
  | z :: hv, h => by
    obtain ⟨rows, e, hr⟩ := rows_of (hv := hv) fun z m => h z (List.mem_cons_of_mem _ m)
    obtain ⟨k, hk, ek⟩ := List.mem_map.mp (h z List.mem_cons_self)
    exact ⟨k :: rows, by rw [List.map_cons, e, ek], fun x m => by
      rcases List.mem_cons.mp m with rfl | m
      · exact hk
      · exact hr x m⟩
theorem eqv_nil (ow : List Str) : PyData.eqv (.list (ow.map PyData.str)) (.list []) = (ow.length == 0) := by
  cases ow with
  | nil => simp [PyData.eqv, PyData.eqvAll]
  | cons x r => simp [PyData.eqv, PyData.eqvAll]
theorem dp_strs {K : PySem.W.Frag} {H : Hp} : ∀ (l : List Str), DpAll K H (l.map V.str) (l.map PyData.str)
  | [] => .nil
  | x :: r => .cons (.str x) (dp_strs r)
theorem lay_strs : ∀ {l : List Str}, (∀ z ∈ l, IsName z) → PyData.canLayAll0 (l.map PyData.str) = true ∧ PyData.depthAll (l.map PyData.str) ≤ 1
  | [], _ => by simp [PyData.canLayAll0, PyData.depthAll]
  | x :: r, h => by
    have ih := lay_strs (l := r) fun z m => h z (List.mem_cons_of_mem _ m)
    have hx := (h x List.mem_cons_self).tx
    simp only [List.map_cons, PyData.canLayAll0, PyData.depthAll, PyData.canLay0, PyData.depth, hx, ih.1, Bool.and_self, true_and]
    omega
theorem shaped_strs {l : List Str} (h : ∀ z ∈ l, IsName z) : SeqAt.shaped (.list (l.map PyData.str)) = true := by
  have := lay_strs h
  have h1 : (PyData.list (l.map PyData.str)).canLay0 = true := by simp [PyData.canLay0, this.1]
  have h2 : (PyData.list (l.map PyData.str)).depth ≤ 64 := by
    simp only [PyData.depth]
    omega
  exact Bool.and_eq_true_iff.mpr ⟨h1, decide_eq_true h2⟩
theorem parts_sub (ws : List Str) (many nf nu : Nat) (h : nf ≤ 3) : List.Sublist (ws.take many ++ ((ws.drop many).take nf ++ (ws.drop (many + 3)).take nu)) ws := by
  have e1 : ws = ws.take many ++ ((ws.drop many).take 3 ++ ws.drop (many + 3)) := by
    rw [← List.drop_drop, List.take_append_drop, List.take_append_drop]
  conv => rhs; rw [e1]
  refine List.Sublist.append (List.Sublist.refl _) (List.Sublist.append ?_ (List.take_sublist _ _))
  exact (List.take_prefix_take_left h).sublist
theorem sub_take {α : Type} {l : List α} {i j : Nat} : ∀ x ∈ (l.drop i).take j, x ∈ l := fun x h => List.mem_of_mem_drop (List.mem_of_mem_take h)
section
variable {P : Program} {w : World} {K : PySem.W.Frag} {mg : Str → Option Value} {base : Heap}

/-- all names of fields are among five -/
def Nm5 (ks : List KRow) : Prop := ∃ nm : List Str, nm.length ≤ 5 ∧ ∀ k ∈ ks, ∀ f ∈ k.fds, f.1 ∈ nm
def spLschema : Sp := fun vs H Q _ => ∃ (b r : Addr) (most kinds : Nat), vs = [.ref b, .int most, .int kinds] ∧ Box H b r ∧ most ≤ 4 ∧ 1 ≤ kinds ∧ kinds ≤ 6 ∧
  ∀ (q kt ft ut : Addr) (ks : List KRow) (fs : List FRow) (us : List URow) (root : Str) H', H' q = some (.tup [.ref kt, .ref ft, .ref ut, .str root]) → SchAt H' kt ft ut ks fs us → SchOk ks fs us root → Nm5 ks → Gr b H H' → Box H' b r → Q (.ref q) H'
theorem ok_Lschema {f f1 f2 f3 f4 : Addr} {fd fd1 fd2 fd3 fd4 : FuncData} (D : Df K mg "_law_schema" s_Lschema f fd ["_law_box_here", "_law_most", "_law_kinds"]) (D_Ldraw : Df K mg "_law_draw" s_Ldraw f1 fd1 ["_law_box_here", "_law_many"])
    (D_Lshape : Df K mg "_law_shape" s_Lshape f2 fd2 ["_law_box_here", "_law_bases_here", "_law_most"]) (D_Lwords : Df K mg "_law_words" s_Lwords f3 fd3 ["_law_box_here", "_law_many"])
    (D_Lkind : Df K mg "_law_kind" s_Lkind f4 fd4 ["_law_box_here", "_law_faces", "_law_names", "_law_common", "_law_bases_here", "_law_most"]) (T : Nms mg)
    (G_Ldraw : FnOk P w K mg base CX0 1 f1 fd1 ["_law_box_here", "_law_many"] spLdraw) (G_Lshape : FnOk P w K mg base CX0 2 f2 fd2 ["_law_box_here", "_law_bases_here", "_law_most"] spLshape) (G_Lwords : FnOk P w K mg base CX0 2 f3 fd3 ["_law_box_here", "_law_many"] spLwords)
    (G_Lkind : FnOk P w K mg base CX0 3 f4 fd4 ["_law_box_here", "_law_faces", "_law_names", "_law_common", "_law_bases_here", "_law_most"] spLkind) : FnOk P w K mg base CX0 4 f fd ["_law_box_here", "_law_most", "_law_kinds"] spLschema := by
  refine D.F.ok sc_Lschema (fun vs H Q E h => ?_) (fun cdv A outer s H vs Q E hr h => ?_)
  · obtain ⟨b, r, most, kinds, rfl, _⟩ := h
    rfl
  · obtain ⟨b, r, most, kinds, rfl, B, hmost, hk1, hk6, q⟩ := h
    have hu := hu_of hr
    refine ⟨_, (pss_cons (ps_set (i := 3) sc_Lschema.nd rfl (.inr rfl) (pe_op op_add pe_int (pe_call G_Ldraw (hr.mono (by decide)) (by rfl) D_Ldraw.g D_Ldraw.F.kp D_Ldraw.b .nil pass0 (pa_cons (pv 0) (pa_cons (pv 2) pa_nil)))))
      (pss_cons (ps_set (i := 4) sc_Lschema.nd rfl (.inr rfl) (pe_call G_Lwords (hr.mono (by decide)) (by rfl) D_Lwords.g D_Lwords.F.kp D_Lwords.b .nil pass0 (pa_cons (pv 0) (pa_cons (pe_op op_add (pv 3) pe_int) pa_nil))))
      (pss_cons (ps_set (i := 5) sc_Lschema.nd rfl (.inl rfl) (pe_call G_Lwords (hr.mono (by decide)) (by rfl) D_Lwords.g D_Lwords.F.kp D_Lwords.b .nil pass0 (pa_cons (pv 0) (pa_cons pe_int pa_nil))))
      (pss_cons (ps_set (i := 6) sc_Lschema.nd rfl (.inl rfl) (pe_slice sl_list (pv 4) (po_some (pv 3)) (po_some (pe_op op_add (pv 3) (pe_call G_Ldraw (hr.mono (by decide)) (by rfl) D_Ldraw.g D_Ldraw.F.kp D_Ldraw.b .nil pass0 (pa_cons (pv 0) (pa_cons pe_int pa_nil)))))))
      (pss_cons (ps_set (i := 7) sc_Lschema.nd rfl (.inl rfl) (pe_slice sl_list (pv 4) (po_some (pe_op op_add (pv 3) pe_int)) (po_some (pe_op op_add (pe_op op_add (pv 3) pe_int) (pe_call G_Ldraw (hr.mono (by decide)) (by rfl) D_Ldraw.g D_Ldraw.F.kp D_Ldraw.b .nil pass0 (pa_cons (pv 0) (pa_cons pe_int pa_nil)))))))
      (pss_cons (ps_set (i := 8) sc_Lschema.nd rfl (.inr rfl) (pe_op op_cat (pe_op op_cat (pe_op op_cat (pe_lst (pa_cons pe_str (pa_cons pe_str pa_nil))) (pe_slice sl_list (pv 4) po_none (po_some (pv 3)))) (pv 6)) (pv 7)))
      (pss_cons (ps_setLc (i := 9) (own := [("_law_k", 12)]) (g := (gName 12)) (tt := tYes) rfl sc_Lschema.nd rfl rfl (sw_true rfl rfl rfl (by decide +kernel)) (pi_range1 (by rfl) T.n_range (pa_cons pe_int pa_nil)) (blkOk_by (own := [("_law_k", 12)]) (N := N_Lschema) (sc := defScope s_Lschema) (by decide +kernel)) (fun _ _ _ _ _ => (pg_name (i := 12) sc_Lschema.nd rfl (.inl rfl))) (fun _ _ _ _ _ => pts_nil) (fun _ _ _ _ _ => (pe_call G_Lshape (hr.mono (by decide)) (by rfl) D_Lshape.g D_Lshape.F.kp D_Lshape.b .nil pass0 (pa_cons (pv 0) (pa_cons (pv 8) (pa_cons (pv 1) pa_nil))))))
      (pss_cons (ps_set (i := 10) sc_Lschema.nd rfl (.inr rfl) pe_dnewK)
      (pss_cons (ps_for PassesOwn.never rfl (pi_list (pv 6)) (pg_name (i := 11) sc_Lschema.nd rfl (.inl rfl))
       (pss_cons (ps_dput hu (pv 10) (pv 11) pe_dnewK rfl)
        (pss_one (ps_for PassesOwn.never rfl (pi_range1 (by rfl) T.n_range (pa_cons (pe_op op_add pe_int (pe_call G_Ldraw (hr.mono (by decide)) (by rfl) D_Ldraw.g D_Ldraw.F.kp D_Ldraw.b .nil pass0 (pa_cons (pv 0) (pa_cons pe_int pa_nil)))) pa_nil)) (pg_name (i := 12) sc_Lschema.nd rfl (.inr rfl))
         (pss_cons (ps_set (i := 13) sc_Lschema.nd rfl (.inl rfl) (pe_call G_Ldraw (hr.mono (by decide)) (by rfl) D_Ldraw.g D_Ldraw.F.kp D_Ldraw.b .nil pass0 (pa_cons (pv 0) (pa_cons pe_int pa_nil))))
          (pss_cons (ps_set (i := 14) sc_Lschema.nd rfl (.inl rfl) (pe_dget hu (pv 10) (pv 11) (fun _ _ => rfl)))
          (pss_one (ps_dput hu (pv 14) (pe_ix ix_list (pv 5) (pv 13) (fun _ _ => rfl)) (pe_ix ix_list (pv 9) (pv 13) (fun _ _ => rfl)) rfl))))))))
      (pss_cons (ps_set (i := 15) sc_Lschema.nd rfl (.inl rfl) pe_dnewK)
      (pss_cons (ps_for PassesOwn.never rfl (pi_range1 (by rfl) T.n_range (pa_cons (pv 3) pa_nil)) (pg_name (i := 12) sc_Lschema.nd rfl (.inr rfl))
       (pss_cons (ps_setLc (i := 16) (own := [("_law_j", 21), ("_law_face", 11)]) (g := gTup K 2 (gCons (gName 21) (gCons (gName 11) gNil))) rfl sc_Lschema.nd rfl rfl (sw_true rfl rfl rfl (by decide +kernel)) (pi_enum (by rfl) T.n_enumerate (pa_cons (pv 6) pa_nil)) (blkOk_by (own := [("_law_j", 21), ("_law_face", 11)]) (N := N_Lschema) (sc := defScope s_Lschema) (by decide +kernel)) (fun _ _ _ _ _ => (pg_tup (by rfl) (pgs_cons (pg_name (i := 21) sc_Lschema.nd rfl (.inl rfl)) (pgs_cons (pg_name (i := 11) sc_Lschema.nd rfl (.inl rfl)) pgs_nil)))) (fun _ _ _ _ _ => pts_one (PW.pt (pw_or (pt_cmpR op_eq (pe_op op_modN (pe_callTy call_int1 (by rfl) T.n_int (by decide +kernel) (pa_cons (pv 21) pa_nil)) (pv 3)) (pv 12) (nomark _)) (pw_or1 (pt_cmpR op_eq (pe_call G_Ldraw (hr.mono (by decide)) (by rfl) D_Ldraw.g D_Ldraw.F.kp D_Ldraw.b .nil pass0 (pa_cons (pv 0) (pa_cons pe_int pa_nil))) pe_int (nomark _)))))) (fun _ _ _ _ _ => (pv 11)))
        (pss_cons (ps_setLc (i := 17) (own := [("_law_face", 11)]) (g := (gName 11)) (tt := tYes) rfl sc_Lschema.nd rfl rfl (sw_true rfl rfl rfl (by decide +kernel)) (pi_list (pv 16)) (blkOk_by (own := [("_law_face", 11)]) (N := N_Lschema) (sc := defScope s_Lschema) (by decide +kernel)) (fun _ _ _ _ _ => (pg_name (i := 11) sc_Lschema.nd rfl (.inl rfl))) (fun _ _ _ _ _ => pts_nil) (fun _ _ _ _ _ => (pe_dget hu (pv 10) (pv 11) (fun _ _ => rfl))))
        (pss_one (ps_dput hu (pv 15) (pe_ix ix_list (pv 4) (pv 12) (fun _ _ => rfl)) (pe_tup (pa_cons (pe_callTy call_tuple_of (by rfl) T.n_tuple (by decide +kernel) (pa_cons (pv 16) pa_nil)) (pa_cons (pe_call G_Lkind (hr.mono (by decide)) (by rfl) D_Lkind.g D_Lkind.F.kp D_Lkind.b .nil pass0 (pa_cons (pv 0) (pa_cons (pv 17) (pa_cons (pv 5) (pa_cons (pv 9) (pa_cons (pv 8) (pa_cons (pv 1) pa_nil))))))) pa_nil))) rfl)))))
      (pss_cons (ps_set (i := 18) sc_Lschema.nd rfl (.inl rfl) pe_dnewK)
      (pss_cons (ps_for PassesOwn.never rfl (pi_list (pv 7)) (pg_name (i := 19) sc_Lschema.nd rfl (.inl rfl))
       (pss_cons (ps_setLc (i := 20) (own := [("_law_word", 22)]) (g := (gName 22)) rfl sc_Lschema.nd rfl rfl (sw_true rfl rfl rfl (by decide +kernel)) (pi_list (pe_slice sl_list (pv 4) po_none (po_some (pv 3)))) (blkOk_by (own := [("_law_word", 22)]) (N := N_Lschema) (sc := defScope s_Lschema) (by decide +kernel)) (fun _ _ _ _ _ => (pg_name (i := 22) sc_Lschema.nd rfl (.inl rfl))) (fun _ _ _ _ _ => pts_one (pt_cmpR op_eq (pe_call G_Ldraw (hr.mono (by decide)) (by rfl) D_Ldraw.g D_Ldraw.F.kp D_Ldraw.b .nil pass0 (pa_cons (pv 0) (pa_cons pe_int pa_nil))) pe_int (nomark _))) (fun _ _ _ _ _ => (pv 22)))
        (pss_cons (ps_set (i := 20) sc_Lschema.nd rfl (.inl rfl) (pe_op op_cat (pe_slice sl_list (pv 20) po_none (po_some pe_int)) (pe_lc (own := [("_law_k", 12)]) (g := (gName 12)) (tt := tYes) rfl sc_Lschema.nd (pi_range1 (by rfl) T.n_range (pa_cons (pe_callTy call_int1 (by rfl) T.n_int (by decide +kernel) (pa_cons (pe_cmpR (op_eqD hr.units) (pv 20) (pe_lst pa_nil) (nomark _)) pa_nil)) pa_nil)) (blkOk_by (own := [("_law_k", 12)]) (N := N_Lschema) (sc := defScope s_Lschema) (by decide +kernel)) (fun _ _ _ _ _ => (pg_name (i := 12) sc_Lschema.nd rfl (.inl rfl))) (fun _ _ _ _ _ => pts_nil) (fun _ _ _ _ _ => (pe_ix (ix_listK K) (pv 4) (pe_call G_Ldraw (hr.mono (by decide)) (by rfl) D_Ldraw.g D_Ldraw.F.kp D_Ldraw.b .nil pass0 (pa_cons (pv 0) (pa_cons (pv 3) pa_nil))) (fun _ _ => rfl))))))
        (pss_one (ps_dput hu (pv 18) (pv 19) (pe_callTy call_tuple_of (by rfl) T.n_tuple (by decide +kernel) (pa_cons (pe_revL (pv 20)) pa_nil)) rfl)))))
      (pss_one (ps_ret (pe_tup (pa_cons (pv 15) (pa_cons (pv 10) (pa_cons (pv 18) (pa_cons (pe_ix (ix_listK K) (pv 4) (pe_call G_Ldraw (hr.mono (by decide)) (by rfl) D_Ldraw.g D_Ldraw.F.kp D_Ldraw.b .nil pass0 (pa_cons (pv 0) (pa_cons (pv 3) pa_nil))) (fun _ _ => rfl)) pa_nil)))))))))))))))))))), ?_⟩
    -- many
    refine ⟨.ref b, rfl, .int kinds, rfl, b, r, kinds, rfl, B, by omega, by omega, fun d H1 d0 d1 g1 B1 => ⟨_, _, rfl, rfl, ?_⟩⟩
    obtain ⟨d, rfl⟩ := Int.eq_ofNat_of_zero_le d0
    have em : (fun (i j : Int) => V.int (i + j)) 1 (d : Int) = V.int ((d + 1 : Nat) : Int) := by
      show V.int (1 + (d : Int)) = _
      rw [show (1 + (d : Int)) = ((d + 1 : Nat) : Int) by omega]
    rw [em]
    obtain ⟨many, hmany⟩ : ∃ many, many = d + 1 := ⟨_, rfl⟩
    rw [← hmany]
    have m0 : 1 ≤ many := by omega
    have m6 : many ≤ 6 := by omega
    clear em d0 d1 hmany
    -- words, names
    refine ⟨.ref b, rfl, .int many, rfl, _, _, rfl, rfl, b, r, many + 6, ?_, B1, by omega, fun ws wl H2 hwl hwok hwnd g2 B2 nw ew => ?_⟩
    · show [V.ref b, V.int ((many : Int) + 6)] = [V.ref b, V.int ((many + 6 : Nat) : Int)]
      rw [show ((many : Int) + 6) = ((many + 6 : Nat) : Int) by omega]
    refine ⟨.ref b, rfl, b, r, 5, rfl, B2, by omega, fun nm nl H3 hnl hnok hnnd g3 B3 nn en => ?_⟩
    have nwb := B1.neb nw
    have nnb := B2.neb nn
    have ew3 := g3 _ _ nwb ew
    have lw : (ws.map V.str).length = many + 6 := by rw [List.length_map, hwl]
    -- faces
    refine ⟨.ref wl, rfl, .int many, rfl, many, rfl, .int many, rfl, .ref b, rfl, b, r, 4, rfl, B3, by decide, by decide, fun nf H4 f0 f1 g4 B4 => ?_⟩
    obtain ⟨nf, rfl⟩ := Int.eq_ofNat_of_zero_le f0
    have hnf : nf ≤ 3 := by omega
    have ew4 := g4 _ _ nwb ew3
    refine ⟨_, _, rfl, rfl, _, rfl, wl, ws.map V.str, rfl, SqL.of ew4, fun fl nfl => ?_⟩
    rw [show ((many : Int) + (nf : Int)) = ((many + nf : Nat) : Int) by omega, cut_nat (by omega) (by omega), show many + nf - many = nf by omega, ← List.map_drop, ← List.map_take]
    generalize hfcs : (ws.drop many).take nf = fcs
    have n3b := B4.neb nfl
    -- unions
    refine ⟨.ref wl, rfl, .int many, rfl, _, _, rfl, rfl, _, rfl, .int many, rfl, _, _, rfl, rfl, .ref b, rfl, b, r, 4, rfl, B4.new nfl, by decide, by decide, fun nu H5 u0 u1 g5 B5 => ?_⟩
    obtain ⟨nu, rfl⟩ := Int.eq_ofNat_of_zero_le u0
    have hnu : nu ≤ 3 := by omega
    have g45 : Gr b H4 H5 := (Gr.new nfl).trans g5
    have ew5 := g45 _ _ nwb ew4
    have ef5 := g5 _ _ n3b upd_same
    refine ⟨_, _, rfl, rfl, _, rfl, wl, ws.map V.str, rfl, SqL.of ew5, fun ul nul => ?_⟩
    show tSeq _ _ _ (List.set _ 7 _) (upd H5 ul (.lst (cutV (ws.map V.str) (some ((many : Int) + 3)) (some ((many : Int) + 3 + (nu : Int))))))
    rw [show ((many : Int) + 3) = ((many + 3 : Nat) : Int) by omega, show (((many + 3 : Nat) : Int) + (nu : Int)) = ((many + 3 + nu : Nat) : Int) by omega, cut_nat (by omega) (by omega), show many + 3 + nu - (many + 3) = nu by omega, ← List.map_drop, ← List.map_take]
    generalize huns : (ws.drop (many + 3)).take nu = uns
    have n4b := B5.neb nul
    have g6 : Gr b H5 (upd H5 ul (.lst (uns.map V.str))) := Gr.new nul
    have B6 : Box (upd H5 ul (.lst (uns.map V.str))) b r := B5.new nul
    have eu6 : (upd H5 ul (.lst (uns.map V.str))) ul = some (.lst (uns.map V.str)) := upd_same
    generalize upd H5 ul (.lst (uns.map V.str)) = H6 at g6 B6 eu6
    have ew6 := g6 _ _ nwb ew5
    have ef6 := g6 _ _ n3b ef5
    -- bases
    refine ⟨by show 2 ≤ sizeLine; decide, fun a1 na1 => ?_⟩
    have s7 : Same H6 (upd H6 a1 (.lst [V.str "number", V.str "text"])) := same_new na1
    have e71 : (upd H6 a1 (.lst [V.str "number", V.str "text"])) a1 = some (.lst [V.str "number", V.str "text"]) := upd_same
    generalize upd H6 a1 (.lst [V.str "number", V.str "text"]) = H7 at s7 e71
    refine ⟨.ref wl, rfl, .int many, rfl, many, rfl, wl, ws.map V.str, rfl, SqL.of (s7 _ _ ew6), fun a2 na2 => ?_⟩
    rw [cut_to (by omega), ← List.map_take]
    have s8 : Same H7 (upd H7 a2 (.lst ((ws.take many).map V.str))) := same_new na2
    have e82 : (upd H7 a2 (.lst ((ws.take many).map V.str))) a2 = some (.lst ((ws.take many).map V.str)) := upd_same
    generalize upd H7 a2 (.lst ((ws.take many).map V.str)) = H8 at s8 e82
    have lt : (ws.take many).length = many := by rw [List.length_take, hwl]; omega
    have lf : fcs.length = nf := by rw [← hfcs, List.length_take, List.length_drop, hwl]; omega
    have lu : uns.length = nu := by rw [← huns, List.length_take, List.length_drop, hwl]; omega
    have hS : ∀ n : Nat, n ≤ 1000 → n ≤ sizeLine := fun n h => Nat.le_trans h (by decide)
    refine ⟨a1, a2, _, _, rfl, rfl, s8 _ _ e71, e82, hS _ (by rw [List.length_map, lt]; show 2 + many ≤ 1000; omega), fun a3 na3 => ?_⟩
    have s9 : Same H8 (upd H8 a3 (.lst ([V.str "number", V.str "text"] ++ (ws.take many).map V.str))) := same_new na3
    have e93 : (upd H8 a3 (.lst ([V.str "number", V.str "text"] ++ (ws.take many).map V.str))) a3 = some (.lst ([V.str "number", V.str "text"] ++ (ws.take many).map V.str)) := upd_same
    generalize upd H8 a3 (.lst ([V.str "number", V.str "text"] ++ (ws.take many).map V.str)) = H9 at s9 e93
    have s69 : Same H6 H9 := (s7.trans s8).trans s9
    refine ⟨.ref fl, rfl, a3, fl, _, _, rfl, rfl, e93, s69 _ _ ef6, hS _ (by rw [List.length_append, List.length_map, List.length_map, lt, lf]; show 2 + many + nf ≤ 1000; omega), fun a4 na4 => ?_⟩
    refine ⟨.ref ul, rfl, a4, ul, _, _, rfl, rfl, upd_same, same_new na4 _ _ (s69 _ _ eu6), hS _ (by rw [List.length_append, List.length_append, List.length_map, List.length_map, List.length_map, lt, lf, lu]; show 2 + many + nf + nu ≤ 1000; omega), fun bs nbs => ?_⟩
    have el : ([V.str "number", V.str "text"] ++ (ws.take many).map V.str ++ fcs.map V.str ++ uns.map V.str) = (LV ++ (ws.take many ++ (fcs ++ uns))).map V.str := by
      simp only [List.map_append, List.append_assoc]
      rfl
    rw [el]
    generalize hl : LV ++ (ws.take many ++ (fcs ++ uns)) = l
    have g10 : Gr b H9 (upd (upd H9 a4 (.lst ([V.str "number", V.str "text"] ++ (ws.take many).map V.str ++ fcs.map V.str))) bs (.lst (l.map V.str))) := (Gr.new na4).trans (Gr.new nbs)
    have B9 : Box H9 b r := by
      obtain ⟨xs, e⟩ := B6.lst
      exact B6.gr (fun a o _ e => s69 a o e) ((s69 _ _ e).trans e.symm)
    have n5b := (B9.new na4).neb nbs
    have B10 : Box (upd (upd H9 a4 (.lst ([V.str "number", V.str "text"] ++ (ws.take many).map V.str ++ fcs.map V.str))) bs (.lst (l.map V.str))) b r := (B9.new na4).new nbs
    have eb10 : (upd (upd H9 a4 (.lst ([V.str "number", V.str "text"] ++ (ws.take many).map V.str ++ fcs.map V.str))) bs (.lst (l.map V.str))) bs = some (.lst (l.map V.str)) := upd_same
    generalize upd (upd H9 a4 (.lst ([V.str "number", V.str "text"] ++ (ws.take many).map V.str ++ fcs.map V.str))) bs (.lst (l.map V.str)) = H10 at g10 B10 eb10
    have g610 : Gr b H6 H10 := (gr_x s69).trans g10
    have ew10 := g610 _ _ nwb ew6
    have ef10 := g610 _ _ n3b ef6
    have eu10 := g610 _ _ n4b eu6
    have en10 := g610 _ _ nnb (g6 _ _ nnb (g45 _ _ nnb (g4 _ _ nnb en)))
    have gA : Gr b H H10 := (((g1.trans g2).trans (g3.trans g4)).trans (g45.trans g6)).trans g610
    have ll : l.length = 2 + (many + (nf + nu)) := by rw [← hl, List.length_append, List.length_append, List.length_append, lt, lf, lu]; rfl
    clear s7 e71 s8 e82 s9 e93 na1 na2 na3 na4 nbs s69 el g10 B9 g610 ew6 ef6 eu6 ew5 ef5 ew4 ew3 nul nfl g45 g6 B6
    -- common
    refine ⟨5, rfl, by decide, by decide, fun cl ncl => lc_range (lo := 0) (n := 5) (fun i H' => ∃ cm : List (V × Shp), cm.length = i ∧ (∀ c ∈ cm, ShAt H' c.1 c.2 ∧ okS l 4 false c.2) ∧ Gr b H10 H' ∧ Box H' b r ∧ H' cl = some (.lst (cm.map (·.1)))) ?_ ?_ ?_⟩
    · exact ⟨[], rfl, (fun c m => by cases m), Gr.new ncl, B10.new ncl, upd_same⟩
    · rintro i H11 hi ⟨cm, hcl, hcm, g11, B11, ec⟩
      have n6b := B10.neb ncl
      refine ⟨rfl, lcT ⟨.ref b, rfl, .ref bs, rfl, .int most, rfl, b, r, bs, l, most, rfl, B11, g11 _ _ n5b eb10, n5b, by omega, by omega, hmost, fun v s H12 hv hs g12 B12 => ⟨_, g12 _ _ n6b ec, ?_, cm ++ [(v, s)], ?_, ?_, (g11.trans g12).upd ncl, B12.upd n6b (B10.ner ncl), ?_⟩⟩⟩
      · rw [List.length_map]
        exact Nat.lt_of_le_of_lt (show cm.length ≤ 1000 by omega) (by decide)
      · rw [List.length_append, hcl]; rfl
      · intro c hc
        obtain ⟨xs, exs⟩ := B11.lst
        have ecl := g12 _ _ n6b ec
        rcases List.mem_append.mp hc with hc | hc
        · exact ⟨((hcm c hc).1.grO (Oth.lst exs) g12).grO (Oth.lst ecl) Gr.box, (hcm c hc).2⟩
        · obtain rfl := List.mem_singleton.mp hc
          exact ⟨hv.grO (Oth.lst ecl) Gr.box, hs⟩
      · rw [upd_same, List.map_append]
        rfl
    · rintro H11 ⟨cm, hcl, hcm, g11, B11, ec⟩
      have n6b := B10.neb ncl
      have P11 : Pre H11 b r wl nl fl ul bs cl ws nm fcs uns l cm := ⟨B11, g11 _ _ nwb ew10, g11 _ _ nnb en10, g11 _ _ n3b ef10, g11 _ _ n4b eu10, g11 _ _ n5b eb10, ec, nwb, nnb, n3b, n4b, n5b, n6b, hcm⟩
      have gB := gA.trans g11
      clear hcm g11 ec ew10 en10 ef10 eu10 eb10 gA B10 ncl
      -- the words' parts
      have fnd : fcs.Nodup := by rw [← hfcs]; exact (hwnd.sublist (List.drop_sublist _ _)).sublist (List.take_sublist _ _)
      have und : uns.Nodup := by rw [← huns]; exact (hwnd.sublist (List.drop_sublist _ _)).sublist (List.take_sublist _ _)
      have fsub : ∀ z ∈ fcs, z ∈ ws := fun z m => by rw [← hfcs] at m; exact sub_take z m
      have usub : ∀ z ∈ uns, z ∈ ws := fun z m => by rw [← huns] at m; exact sub_take z m
      refine fun ft nft => ?_
      have nftb := B11.neb nft
      have nftr := B11.ner nft
      have nft0 : H ft = none := gB.free nftb nft
      have P12 := P11.gl (Gr.new (o := .dK []) nft).gl (B11.new nft)
      have gC := gB.trans (Gr.new (o := .dK []) nft)
      have eft : (upd H11 ft (.dK [])) ft = some (.dK (fkvs [])) := upd_same
      generalize upd H11 ft (.dK []) = H12 at P12 gC eft
      have n6b' : cl ≠ b := n6b
      clear P11 gB B11 n6b
      refine ⟨.ref fl, rfl, fl, rfl, ⟨_, SqL.of P12.hf⟩, ?_⟩
      refine for_list (xs := fcs.map V.str) (fun i σ H' => ∃ (y11 y12 y13 y14 : Option V) (frs : List FRow), σ = [some (.ref b), some (.int most), some (.int kinds), some (.int many), some (.ref wl), some (.ref nl), some (.ref fl), some (.ref ul), some (.ref bs), some (.ref cl), some (.ref ft), y11, y12, y13, y14, none, none, none, none, none, none, none, none] ∧
        frs.map (·.nm) = fcs.take i ∧ (∀ f ∈ frs, FldAt H' f.da f.fds ∧ f.da ≠ ft ∧ H f.da = none ∧ 1 ≤ f.fds.length ∧ f.fds.length ≤ 4 ∧ (f.fds.map (·.1)).Nodup ∧ ∀ x ∈ f.fds, Com nm cm x) ∧ H' ft = some (.dK (fkvs frs)) ∧ Pre H' b r wl nl fl ul bs cl ws nm fcs uns l cm ∧ Gr b H H')
        ⟨none, none, none, none, [], rfl, rfl, (fun f m => by cases m), eft, P12, gC⟩ ?_ ?_ ?_
      · rintro i σ H' _ ⟨_, _, _, _, frs, _, _, _, _, Pz, _⟩
        exact SqL.of Pz.hf
      · rintro i x σ H1 ex ⟨y11, y12, y13, y14, frs, rfl, hnm, hat, eF, Pz, gz⟩
        rw [List.getElem?_map] at ex
        cases er : fcs[i]? with
        | none => rw [er] at ex; cases ex
        | some face =>
          rw [er] at ex
          cases ex
          have hi := (List.getElem?_eq_some_iff.mp er).1
          have hlen : frs.length = i := by
            have e := congrArg List.length hnm
            rw [List.length_map, List.length_take] at e
            omega
          have hface : face ∉ frs.map (·.nm) := by
            rw [hnm]
            have := name_new (f := fun z : Str => z) (ks := fcs) (by rw [List.map_id']; exact fnd) er
            rw [List.map_id'] at this
            exact this
          -- face_table[face] = {}
          refine fun d nd => ?_
          have ndb := Pz.B.neb nd
          have ndr := Pz.B.ner nd
          have nd0 : H d = none := gz.free ndb nd
          have ndf : d ≠ ft := (ne_of_none eF nd).symm
          refine ⟨.ref ft, rfl, .str face, rfl, ft, _, rfl, DPut.k (k := Sum.inr face) (kvs := fkvs frs) (by rw [upd_ne (ne_of_none eF nd)]; exact eF) ?_, ?_⟩
          · rw [show (fkvs frs).length = frs.length from List.length_map ..]
            exact Nat.lt_of_le_of_lt (show frs.length ≤ 1000 by omega) (by decide)
          have eput : putK (fkvs frs) (Sum.inr face) (.ref d) = fkvs (frs ++ [⟨face, d, []⟩]) := put_snoc (f := fun k : FRow => k.nm) (g := fun k => V.ref k.da) (r := ⟨face, d, []⟩) hface
          rw [eput]
          have eF0 : (upd H1 d (.dK [])) ft = some (.dK (fkvs frs)) := by rw [upd_ne (ne_of_none eF nd)]; exact eF
          have P2 : Pre (upd (upd H1 d (.dK [])) ft (.dK (fkvs (frs ++ [⟨face, d, []⟩])))) b r wl nl fl ul bs cl ws nm fcs uns l cm := (Pz.gl (Gr.new nd).gl (Pz.B.new nd)).gl (Gl.upd eF0) ((Pz.B.new nd).upd nftb nftr)
          have g2' : Gr b H (upd (upd H1 d (.dK [])) ft (.dK (fkvs (frs ++ [⟨face, d, []⟩])))) := (gz.trans (Gr.new nd)).upd nft0
          have hat2 : ∀ f ∈ frs, FldAt (upd (upd H1 d (.dK [])) ft (.dK (fkvs (frs ++ [⟨face, d, []⟩])))) f.da f.fds ∧ f.da ≠ d := fun f m => ⟨((hat f m).1.same (same_new nd)).put eF0 (hat f m).2.1, ne_of_none (hat f m).1.at_ nd⟩
          have eF2 : (upd (upd H1 d (.dK [])) ft (.dK (fkvs (frs ++ [⟨face, d, []⟩])))) ft = some (.dK (fkvs (frs ++ [⟨face, d, []⟩]))) := upd_same
          have ed2 : FldAt (upd (upd H1 d (.dK [])) ft (.dK (fkvs (frs ++ [⟨face, d, []⟩])))) d [] := ⟨by rw [upd_ne ndf, upd_same]; rfl, fun f m => by cases m⟩
          generalize upd (upd H1 d (.dK [])) ft (.dK (fkvs (frs ++ [⟨face, d, []⟩]))) = H2 at P2 g2' hat2 eF2 ed2
          -- for k in range(1 + draw(box, 2))
          refine ⟨.ref b, rfl, b, r, 2, rfl, P2.B, by decide, by decide, fun n H3 n0 n1 g3 B3 => ?_⟩
          obtain ⟨n, rfl⟩ := Int.eq_ofNat_of_zero_le n0
          have hn : n < 2 := by omega
          refine ⟨_, _, rfl, rfl, (1 + (n : Int)), rfl, by omega, by omega, ?_⟩
          rw [show ((1 : Int) + (n : Int)).toNat = n + 1 by omega]
          have P3 := P2.gl g3.gl B3
          obtain ⟨bx, ebx⟩ := P2.B.lst
          refine for_range (lo := 0) (n := n + 1) (fun j σ H' => ∃ (y12 y13 y14 : Option V) (fds : List Fld), σ = [some (.ref b), some (.int most), some (.int kinds), some (.int many), some (.ref wl), some (.ref nl), some (.ref fl), some (.ref ul), some (.ref bs), some (.ref cl), some (.ref ft), some (.str face), y12, y13, y14, none, none, none, none, none, none, none, none] ∧
            FldAt H' d fds ∧ (fds.map (·.1)).Nodup ∧ (∀ x ∈ fds, Com nm cm x) ∧ fds.length ≤ j ∧ (0 < j → 1 ≤ fds.length) ∧ (∀ f ∈ frs, FldAt H' f.da f.fds) ∧ H' ft = some (.dK (fkvs (frs ++ [⟨face, d, []⟩]))) ∧ Pre H' b r wl nl fl ul bs cl ws nm fcs uns l cm ∧ Gr b H H')
            ⟨y12, y13, y14, [], rfl, ed2.gr (Oth.lst ebx) g3, List.nodup_nil, (fun x m => by cases m), Nat.le_refl _, (fun h => absurd h (Nat.lt_irrefl _)), fun f m => (hat2 f m).1.gr (Oth.lst ebx) g3, g3 _ _ nftb eF2, P3, g2'.trans g3⟩ ?_ ?_
          · rintro j σ H4 hj ⟨y12, y13, y14, fds, rfl, hd, hnd, hcom, hl1, hl2, hold, eF4, P4, g4⟩
            refine ⟨.ref b, rfl, b, r, 5, rfl, P4.B, by decide, by decide, fun at_ H5 a0 a1 g5 B5 => ?_⟩
            obtain ⟨at_, rfl⟩ := Int.eq_ofNat_of_zero_le a0
            have ha5 : at_ < 5 := by omega
            obtain ⟨bx4, ebx4⟩ := P4.B.lst
            have P5 := P4.gl g5.gl B5
            have hd5 := hd.gr (Oth.lst ebx4) g5
            have eF5 := g5 _ _ nftb eF4
            have hni : nm[at_]? = some (nm[at_]'(by omega)) := List.getElem?_eq_getElem _
            have hci : cm[at_]? = some (cm[at_]'(by omega)) := List.getElem?_eq_getElem _
            generalize nm[at_]'(by omega) = z at hni
            generalize cm[at_]'(by omega) = c at hci
            have an : atI (nm.map V.str) (at_ : Int) = some (.str z) := atI_nat (by rw [List.getElem?_map, hni]; rfl)
            have ac : atI (cm.map (·.1)) (at_ : Int) = some c.1 := atI_nat (by rw [List.getElem?_map, hci]; rfl)
            have vF : valV (fkvs (frs ++ [⟨face, d, []⟩])) (Sum.inr face) = some (.ref d) := fkvs_val (k := ⟨face, d, []⟩) (by
              rw [List.map_append]
              exact List.nodup_append.mpr ⟨by rw [hnm]; exact fnd.sublist (List.take_sublist _ _), by simp, fun a ha b hb e => hface (by rw [show face = a from (e.trans (List.mem_singleton.mp hb)).symm]; exact ha)⟩) (List.mem_append_right _ (List.mem_singleton.mpr rfl))
            refine ⟨.ref ft, rfl, .str face, rfl, ft, .ref d, rfl, .inl ⟨_, .inr face, .inl eF5, rfl, vF.symm⟩, ?_⟩
            refine ⟨.ref cl, rfl, .int at_, rfl, cl, _, _, c.1, rfl, rfl, SqL.of P5.hc, ac, .ref d, rfl, .ref nl, rfl, .int at_, rfl, nl, _, _, .str z, rfl, rfl, SqL.of P5.hn, an, d, _, rfl, DPut.k (k := Sum.inr z) hd5.at_ ?_, ?_⟩
            · rw [show (fkv fds).length = fds.length from List.length_map ..]
              exact Nat.lt_of_le_of_lt (show fds.length ≤ 1000 by omega) (by decide)
            rw [show putK (fkv fds) (Sum.inr z) c.1 = fkv (putFl fds (z, c)) from putFl_kv fds (z, c)]
            have up : ∀ {v : V} {s : Shp}, ShAt H5 v s → ShAt (upd H5 d (.dK (fkv (putFl fds (z, c))))) v s := fun h => h.gr (xs := []) (.inr ⟨_, hd5.at_⟩) Gr.box
            have cz : Com nm cm (z, c) := ⟨at_, hni, hci⟩
            refine ⟨_, _, _, putFl fds (z, c), rfl, ⟨upd_same, fun x m => ?_⟩, putFl_nd hnd, fun x m => ?_, ?_, fun _ => List.length_pos_of_mem (putFl_has fds (z, c)), fun f m => ?_, ?_, P5.gl (Gl.upd hd5.at_) (B5.upd ndb ndr), (g4.trans g5).upd nd0⟩
            · rcases putFl_mem m with rfl | ⟨m, _⟩
              · exact up (P5.csh c (List.mem_of_getElem? hci)).1
              · exact up (hd5.sh x m)
            · rcases putFl_mem m with rfl | ⟨m, _⟩
              · exact cz
              · exact hcom x m
            · have := putFl_len (fs := fds) (f := (z, c))
              omega
            · exact ((hold f m).gr (Oth.lst ebx4) g5).put hd5.at_ (hat2 f m).2
            · rw [upd_ne ndf.symm]
              exact eF5
          · rintro σ H4 ⟨y12, y13, y14, fds, rfl, hd, hnd, hcom, hl1, hl2, hold, eF4, P4, g4⟩
            refine ⟨_, y12, y13, y14, frs ++ [⟨face, d, fds⟩], rfl, ?_, fun f m => ?_, ?_, P4, g4⟩
            · rw [List.map_append, hnm, List.take_add_one, er]
              rfl
            · rcases List.mem_append.mp m with m | m
              · exact ⟨hold f m, (hat f m).2⟩
              · obtain rfl := List.mem_singleton.mp m
                exact ⟨hd, ndf, nd0, hl2 (Nat.succ_pos _), by show fds.length ≤ 4; omega, hnd, hcom⟩
            · rw [eF4]
              unfold fkvs
              rw [List.map_append, List.map_append]
              rfl
      · rintro σ H1 ⟨y11, y12, y13, y14, frs, rfl, hnm, hat, eF, Pz, gz⟩
        rw [List.length_map, List.take_length] at hnm
        clear eft P12 gC nft
        refine fun kt nkt => ?_
        have nkb := Pz.B.neb nkt
        have nkr := Pz.B.ner nkt
        have nk0 : H kt = none := gz.free nkb nkt
        have nkf : kt ≠ ft := (ne_of_none eF nkt).symm
        have smk : Same H1 (upd H1 kt (.dK [])) := same_new nkt
        have hat1 : ∀ f ∈ frs, FldAt (upd H1 kt (.dK [])) f.da f.fds ∧ f.da ≠ kt := fun f m => ⟨(hat f m).1.same smk, ne_of_none (hat f m).1.at_ nkt⟩
        have hfp : ∀ f ∈ frs, f.da ≠ ft ∧ 1 ≤ f.fds.length ∧ f.fds.length ≤ 4 ∧ (f.fds.map (·.1)).Nodup ∧ ∀ x ∈ f.fds, Com nm cm x := fun f m => (hat f m).2.imp id fun h => h.2
        have P1' := Pz.gl (Gr.new (o := .dK []) nkt).gl (Pz.B.new nkt)
        have g1' := gz.trans (Gr.new (o := .dK []) nkt)
        have eF1 := smk _ _ eF
        have ek1 : (upd H1 kt (.dK [])) kt = some (.dK (kkv [])) := upd_same
        generalize upd H1 kt (.dK []) = H2 at hat1 P1' g1' eF1 ek1
        clear smk hat eF Pz gz nkt
        have fnm : ∀ z ∈ fcs, z ∈ frs.map (·.nm) := fun z m => by rw [hnm]; exact m
        have frnd : (frs.map (·.nm)).Nodup := by rw [hnm]; exact fnd
        refine ⟨.int many, rfl, many, rfl, by omega, by omega, for_range (lo := 0) (n := many) (fun i σ H' => ∃ (y11 y12 y13 y14 y16 y17 : Option V) (krs : List KRow), σ = [some (.ref b), some (.int most), some (.int kinds), some (.int many), some (.ref wl), some (.ref nl), some (.ref fl), some (.ref ul), some (.ref bs), some (.ref cl), some (.ref ft), y11, y12, y13, y14, some (.ref kt), y16, y17, none, none, none, none, none] ∧
          krs.map (·.nm) = ws.take i ∧ (∀ k ∈ krs, k.At H' ∧ k.da ≠ kt ∧ k.fcs.Nodup ∧ (∀ z ∈ k.fcs, z ∈ fcs) ∧ 1 ≤ k.fds.length ∧ k.fds.length ≤ 5 ∧ (k.fds.map (·.1)).Nodup ∧ (∀ f ∈ k.fds, f.1 ∈ nm ∧ okS l 4 false f.2.2) ∧ ∀ f ∈ frs, f.nm ∈ k.fcs → ∀ x ∈ f.fds, x ∈ k.fds) ∧
          (∀ (j : Nat) z, fcs[j]? = some z → j % many < i → ∃ k ∈ krs, z ∈ k.fcs) ∧ (∀ f ∈ frs, FldAt H' f.da f.fds) ∧ H' ft = some (.dK (fkvs frs)) ∧ H' kt = some (.dK (kkv krs)) ∧ Pre H' b r wl nl fl ul bs cl ws nm fcs uns l cm ∧ Gr b H H') ?_ ?_ ?_⟩
        · exact ⟨y11, y12, y13, y14, none, none, [], rfl, rfl, (fun k m => by cases m), (fun j z _ h => absurd h (Nat.not_lt_zero _)), fun f m => (hat1 f m).1, eF1, ek1, P1', g1'⟩
        · rintro i σ H3 hi ⟨y11, y12, y13, y14, y16, y17, krs, rfl, knm, hk, hcov, hfr, eF3, eK3, P3, g3⟩
          have hlen : krs.length = i := by
            have e := congrArg List.length knm
            rw [List.length_map, List.length_take] at e
            omega
          -- having
          refine ⟨.ref fl, rfl, fl, fcs.map V.str, rfl, SqL.of P3.hf, fun ha nha => ?_⟩
          have nhb := P3.B.neb nha
          have nhr := P3.B.ner nha
          refine lc_it (walk_enum (xs := fcs.map V.str)) (fun j H' => ∃ hv : List Str, hv.Nodup ∧ (∀ z ∈ hv, z ∈ fcs.take j) ∧ (∀ (j' : Nat) z, j' < j → fcs[j']? = some z → j' % many = i → z ∈ hv) ∧ Gr b H3 H' ∧ Box H' b r ∧ H' ha = some (.lst (hv.map V.str)))
            ⟨[], List.nodup_nil, (fun z m => by cases m), (fun j' z h => absurd h (Nat.not_lt_zero _)), Gr.new nha, P3.B.new nha, upd_same⟩ (fun j H' _ p => by
              obtain ⟨hv, _, _, _, g, _, _⟩ := p
              exact SqL.of (g _ _ n3b P3.hf)) ?_ ?_
          · rintro j x H4 H5 hj ⟨hv, hvn, hvs, hvc, g4, B4, e4⟩ ⟨tT, x1, x2, rfl, nT, rfl, f1, f2⟩
            cases f1
            have f2 : (fcs.map V.str)[j]? = some x2 := f2
            cases ej : fcs[j]? with
            | none => rw [List.getElem?_map, ej] at f2; cases f2
            | some face =>
              rw [List.getElem?_map, ej] at f2
              cases f2
              have g5 : Gr b H3 (upd H4 tT (.tup [.int (j : Nat), .str face])) := g4.trans (Gr.new nT)
              have B5 := B4.new (o := .tup [.int (j : Nat), .str face]) nT
              have e5 : (upd H4 tT (.tup [.int (j : Nat), .str face])) ha = some (.lst (hv.map V.str)) := by rw [upd_ne (ne_of_none e4 nT)]; exact e4
              refine ⟨tT, _, rfl, .inl (.inl upd_same), rfl, .int (j : Nat), [.str face], rfl, .str face, [], rfl, rfl, rfl, ?_⟩
              generalize upd H4 tT (.tup [.int (j : Nat), .str face]) = H5 at g5 B5 e5
              have fnew : face ∉ fcs.take j := by
                have := name_new (f := fun z : Str => z) (ks := fcs) (by rw [List.map_id']; exact fnd) ej
                rw [List.map_id'] at this
                exact this
              have tk : fcs.take (j + 1) = fcs.take j ++ [face] := by rw [List.take_add_one, ej]; rfl
              have hvl : hv.length ≤ 3 := by
                have := len_le_of_sub hvn fun z m => List.mem_of_mem_take (hvs z m)
                omega
              have yes : ∀ {H6 : Hp}, Gr b H3 H6 → Box H6 b r → H6 ha = some (.lst (hv.map V.str)) → ∃ acc, H6 ha = some (.lst acc) ∧ acc.length < sizeLine ∧ ∃ hv' : List Str, hv'.Nodup ∧ (∀ z ∈ hv', z ∈ fcs.take (j + 1)) ∧ (∀ (j' : Nat) z, j' < j + 1 → fcs[j']? = some z → j' % many = i → z ∈ hv') ∧ Gr b H3 (upd H6 ha (.lst (acc ++ [.str face]))) ∧ Box (upd H6 ha (.lst (acc ++ [.str face]))) b r ∧ (upd H6 ha (.lst (acc ++ [.str face]))) ha = some (.lst (hv'.map V.str)) := fun {H6} g6 B6 e6 => by
                refine ⟨_, e6, ?_, hv ++ [face], ?_, fun z m => ?_, fun j' z h1 h2 h3 => ?_, g6.upd nha, B6.upd nhb nhr, ?_⟩
                · rw [List.length_map]
                  exact Nat.lt_of_le_of_lt (show hv.length ≤ 1000 by omega) (by decide)
                · exact List.nodup_append.mpr ⟨hvn, by simp, fun a ha b hb e => fnew (by rw [show face = a from (e.trans (List.mem_singleton.mp hb)).symm]; exact hvs a ha)⟩
                · rw [tk]
                  rcases List.mem_append.mp m with m | m
                  · exact List.mem_append_left _ (hvs z m)
                  · exact List.mem_append_right _ m
                · by_cases e : j' = j
                  · subst e
                    rw [ej] at h2
                    cases h2
                    exact List.mem_append_right _ (List.mem_singleton.mpr rfl)
                  · exact List.mem_append_left _ (hvc j' z (by omega) h2 h3)
                · rw [upd_same, List.map_append]
                  rfl
              have hmod : ((j : Int)).fmod (many : Int) = ((j % many : Nat) : Int) := by
                rw [Int.fmod_eq_emod_of_nonneg _ (by omega)]
                omega
              refine ⟨.int (j : Nat), rfl, .inl ⟨_, rfl, .int many, rfl, _, _, rfl, rfl, (by show (many : Int) ≠ 0; omega), .int (0 + i), rfl, rfl, _, rfl, ite2 (fun e => ?_) (fun e => ?_)⟩⟩
              · exact iteT ⟨.str face, rfl, yes g5 B5 e5⟩
              · refine ⟨.ref b, rfl, b, r, 2, rfl, B5, by decide, by decide, fun dd H6 _ _ g6 B6 => ⟨rfl, _, rfl, ite2 (fun e2 => ?_) (fun e2 => ?_)⟩⟩
                · exact ⟨.str face, rfl, yes (g5.trans g6) B6 (g6 _ _ nhb e5)⟩
                · refine ⟨hv, hvn, fun z m => by rw [tk]; exact List.mem_append_left _ (hvs z m), fun j' z h1 h2 h3 => ?_, g5.trans g6, B6, g6 _ _ nhb e5⟩
                  by_cases ee : j' = j
                  · subst ee
                    refine absurd (decide_eq_true ?_) e
                    show V.int (((j' : Nat) : Int).fmod (many : Int)) = V.int (0 + (i : Int))
                    rw [hmod, h3, Int.zero_add]
                  · exact hvc j' z (by omega) h2 h3
          · rintro H4 ⟨hv, hvn, hvs, hvc, g4, B4, e4⟩
            rw [List.length_map, List.take_length] at hvs
            obtain ⟨rows, rnm, rsub⟩ := rows_of (frs := frs) (hv := hv) fun z m => fnm z (hvs z m)
            have hvl : hv.length ≤ 3 := by
              have := len_le_of_sub hvn hvs
              omega
            have rlen : rows.length = hv.length := by rw [← rnm, List.length_map]
            obtain ⟨bx3, ebx3⟩ := P3.B.lst
            have P4 := P3.gl g4.gl B4
            have eF4 := g4 _ _ nftb eF3
            -- given
            refine ⟨.ref ha, rfl, ha, rfl, ⟨_, SqL.of e4⟩, fun ga nga => ?_⟩
            have ngb := B4.neb nga
            have ngr := B4.ner nga
            refine lc_list (xs := hv.map V.str) (fun j H' => H' = upd H4 ga (.lst ((rows.take j).map fun k => V.ref k.da))) rfl (fun j H' _ e => by rw [e]; exact SqL.of (by rw [upd_ne (ne_of_none e4 nga)]; exact e4)) ?_ ?_
            · rintro j x H5 ex rfl
              cases ej : hv[j]? with
              | none => rw [List.getElem?_map, ej] at ex; cases ex
              | some z =>
                rw [List.getElem?_map, ej] at ex
                cases ex
                have hj := (List.getElem?_eq_some_iff.mp ej).1
                have ejr : rows[j]? = some (rows[j]'(by omega)) := List.getElem?_eq_getElem _
                generalize rows[j]'(by omega) = row at ejr
                have ezr : row.nm = z := by
                  have e1 : (rows.map (·.nm))[j]? = some row.nm := by rw [List.getElem?_map, ejr]; rfl
                  rw [rnm, ej] at e1
                  exact (Option.some.inj e1).symm
                have rm := rsub row (List.mem_of_getElem? ejr)
                refine ⟨rfl, lcT ⟨.ref ft, rfl, .str z, rfl, ft, .ref row.da, rfl, .inl ⟨fkvs frs, .inr z, .inl (by rw [upd_ne (ne_of_none eF4 nga)]; exact eF4), rfl, by rw [← ezr]; exact (fkvs_val frnd rm).symm⟩, _, upd_same, ?_, ?_⟩⟩
                · rw [List.length_map, List.length_take]
                  exact Nat.lt_of_le_of_lt (show min j rows.length ≤ 1000 by omega) (by decide)
                · rw [upd_upd, List.take_add_one, ejr, List.map_append]
                  rfl
            · rintro H5 rfl
              rw [List.length_map, ← rlen, List.take_length]
              have g5 : Gr b H3 (upd H4 ga (.lst (rows.map fun k => V.ref k.da))) := g4.trans (Gr.new nga)
              have P5 := P4.gl (Gr.new (o := .lst (rows.map fun k => V.ref k.da)) nga).gl (B4.new nga)
              have eg5 : (upd H4 ga (.lst (rows.map fun k => V.ref k.da))) ga = some (.lst (rows.map fun k => V.ref k.da)) := upd_same
              have eh5 : (upd H4 ga (.lst (rows.map fun k => V.ref k.da))) ha = some (.lst (hv.map V.str)) := by rw [upd_ne (ne_of_none e4 nga)]; exact e4
              generalize upd H4 ga (.lst (rows.map fun k => V.ref k.da)) = H5 at g5 P5 eg5 eh5
              -- tuple(having)
              refine ⟨.ref ha, rfl, ha, _, rfl, .inl ⟨SqL.of eh5, fun tp ntp => ?_⟩⟩
              have g6 : Gr b H3 (upd H5 tp (.tup (hv.map V.str))) := g5.trans (Gr.new ntp)
              have P6 := P5.gl (Gr.new (o := .tup (hv.map V.str)) ntp).gl (P5.B.new ntp)
              have eg6 : (upd H5 tp (.tup (hv.map V.str))) ga = some (.lst (rows.map fun k => V.ref k.da)) := by rw [upd_ne (ne_of_none eg5 ntp)]; exact eg5
              have et6 : (upd H5 tp (.tup (hv.map V.str))) tp = some (.tup (hv.map V.str)) := upd_same
              generalize upd H5 tp (.tup (hv.map V.str)) = H6 at g6 P6 eg6 et6
              refine ⟨.ref b, rfl, .ref ga, rfl, .ref nl, rfl, .ref cl, rfl, .ref bs, rfl, .int most, rfl, b, r, ga, nl, cl, bs, rows, nm, cm, l, most, rfl, ?_, hmost, fun t fds H7 nt ht t1 t5 tnd tok tall g7 B7 => ?_⟩
              · exact ⟨P6.B, eg6, P6.hn, P6.hc, P6.hb, ngb, nnb, n6b', n5b, fun k m => (hfr k (rsub k m)).gr (Oth.lst ebx3) g6, by omega, hnl, hnnd, hcl, P6.csh, fun k m f hf => (hfp k (rsub k m)).2.2.2.2 f hf, fun k m => (hfp k (rsub k m)).2.2.2.1, by omega, by omega⟩
              have ntb := P6.B.neb nt
              have ntpb : tp ≠ b := by
                obtain ⟨bx6, ebx6⟩ := P6.B.lst
                exact ne_of et6 ebx6 (by intro z; cases z)
              have g37 : Gr b H3 H7 := g6.trans g7
              have eK7 := g37 _ _ nkb eK3
              have et7 := g7 _ _ ntpb et6
              have ntk : t ≠ kt := (ne_of_none (g6 _ _ nkb eK3) nt).symm
              refine ⟨by show 2 ≤ sizeLine; decide, fun q1 nq => ?_⟩
              have g8 : Gr b H3 (upd H7 q1 (.tup [.ref tp, .ref t])) := g37.trans (Gr.new nq)
              have B8 := B7.new (o := .tup [.ref tp, .ref t]) nq
              have sm8 : Same H7 (upd H7 q1 (.tup [.ref tp, .ref t])) := same_new nq
              have eq8 : (upd H7 q1 (.tup [.ref tp, .ref t])) q1 = some (.tup [.ref tp, .ref t]) := upd_same
              generalize upd H7 q1 (.tup [.ref tp, .ref t]) = H8 at g8 B8 sm8 eq8
              have P8 := P3.gl g8.gl B8
              have eK8 := g8 _ _ nkb eK3
              have hwi : ws[i]? = some (ws[i]'(by omega)) := List.getElem?_eq_getElem _
              generalize ws[i]'(by omega) = wd at hwi
              have aw : atI (ws.map V.str) (0 + (i : Int)) = some (.str wd) := at_of (j := i) (by omega) (by rw [List.getElem?_map, hwi]; rfl)
              refine ⟨.ref kt, rfl, .ref wl, rfl, _, rfl, wl, _, _, .str wd, rfl, rfl, SqL.of P8.hw, aw, kt, _, rfl, DPut.k (k := Sum.inr wd) eK8 ?_, ?_⟩
              · rw [show (kkv krs).length = krs.length from List.length_map ..]
                exact Nat.lt_of_le_of_lt (show krs.length ≤ 1000 by omega) (by decide)
              have wnew : wd ∉ krs.map (·.nm) := by
                rw [knm]
                have := name_new (f := fun z : Str => z) (ks := ws) (by rw [List.map_id']; exact hwnd) hwi
                rw [List.map_id'] at this
                exact this
              rw [show putK (kkv krs) (Sum.inr wd) (.ref q1) = kkv (krs ++ [⟨wd, q1, tp, t, hv, fds⟩]) from put_snoc (f := fun k : KRow => k.nm) (g := fun k => V.ref k.t) (r := ⟨wd, q1, tp, t, hv, fds⟩) wnew]
              have row8 : (KRow.mk wd q1 tp t hv fds).At H8 := ⟨eq8, sm8 _ _ et7, ht.same sm8⟩
              refine ⟨y11, _, y13, y14, some (.ref ha), some (.ref ga), krs ++ [⟨wd, q1, tp, t, hv, fds⟩], rfl, ?_, fun k m => ?_, fun j z hz hj => ?_, fun f m => ?_, ?_, upd_same, P8.gl (Gl.upd eK8) (B8.upd nkb nkr), (g3.trans g8).upd nk0⟩
              · rw [List.map_append, knm, List.take_add_one, hwi]
                rfl
              · rcases List.mem_append.mp m with m | m
                · obtain ⟨h1, h2, h3⟩ := hk k m
                  exact ⟨(h1.gr (Oth.lst ebx3) g8).put eK8 h2, h2, h3⟩
                · obtain rfl := List.mem_singleton.mp m
                  refine ⟨row8.put eK8 ntk, ntk, hvn, hvs, t1, t5, tnd, tok, fun f hf hin x hx => ?_⟩
                  obtain ⟨row, rm, rn⟩ := List.mem_map.mp (show f.nm ∈ rows.map (·.nm) by rw [rnm]; exact hin)
                  have : row = f := by
                    have h1 := fkvs_val frnd (rsub row rm)
                    obtain ⟨i1, hi1, e1⟩ := List.getElem_of_mem (rsub row rm)
                    obtain ⟨i2, hi2, e2⟩ := List.getElem_of_mem hf
                    have hh : (frs.map (·.nm))[i1]'(by rw [List.length_map]; exact hi1) = (frs.map (·.nm))[i2]'(by rw [List.length_map]; exact hi2) := by
                      rw [List.getElem_map, List.getElem_map, e1, e2, rn]
                    have := (List.getElem_inj frnd).mp hh
                    subst this
                    rw [← e1, ← e2]
                  exact tall f (this ▸ rm) x hx
              · by_cases e : j % many = i
                · exact ⟨_, List.mem_append_right _ (List.mem_singleton.mpr rfl), hvc j z (by have := (List.getElem?_eq_some_iff.mp hz).1; rw [List.length_map]; exact this) hz e⟩
                · obtain ⟨k, hk1, hk2⟩ := hcov j z hz (by omega)
                  exact ⟨k, List.mem_append_left _ hk1, hk2⟩
              · exact ((hfr f m).gr (Oth.lst ebx3) g8).put eK8 (hat1 f m).2
              · rw [upd_ne nkf.symm]
                exact g8 _ _ nftb eF3
        · rintro σ H3 ⟨y11, y12, y13, y14, y16, y17, krs, rfl, knm, hk, hcov, hfr, eF3, eK3, P3, g3⟩
          clear ek1 P1' g1' eF1
          refine fun ut nut => ?_
          have nub := P3.B.neb nut
          have nur := P3.B.ner nut
          have nu0 : H ut = none := g3.free nub nut
          have nuk : ut ≠ kt := (ne_of_none eK3 nut).symm
          have nuf : ut ≠ ft := (ne_of_none eF3 nut).symm
          have smu : Same H3 (upd H3 ut (.dK [])) := same_new nut
          have kat : ∀ k ∈ krs, k.At (upd H3 ut (.dK [])) ∧ k.da ≠ ut := fun k m => ⟨(hk k m).1.same smu, ne_of_none (hk k m).1.d.at_ nut⟩
          have fat : ∀ f ∈ frs, FldAt (upd H3 ut (.dK [])) f.da f.fds ∧ f.da ≠ ut := fun f m => ⟨(hfr f m).same smu, ne_of_none (hfr f m).at_ nut⟩
          have kpr : ∀ k ∈ krs, k.fcs.Nodup ∧ (∀ z ∈ k.fcs, z ∈ fcs) ∧ 1 ≤ k.fds.length ∧ k.fds.length ≤ 5 ∧ (k.fds.map (·.1)).Nodup ∧ (∀ f ∈ k.fds, f.1 ∈ nm ∧ okS l 4 false f.2.2) ∧ ∀ f ∈ frs, f.nm ∈ k.fcs → ∀ x ∈ f.fds, x ∈ k.fds := fun k m => (hk k m).2.2
          have P4 := P3.gl (Gr.new (o := .dK []) nut).gl (P3.B.new nut)
          have g4' := g3.trans (Gr.new (o := .dK []) nut)
          have eF4 := smu _ _ eF3
          have eK4 := smu _ _ eK3
          have eU4 : (upd H3 ut (.dK [])) ut = some (.dK (ukv [])) := upd_same
          generalize upd H3 ut (.dK []) = H4 at kat fat P4 g4' eF4 eK4 eU4
          clear smu hk hfr P3 g3 eF3 eK3 nut hat1
          refine ⟨.ref ul, rfl, ul, rfl, ⟨_, SqL.of P4.hu⟩, ?_⟩
          refine for_list (xs := uns.map V.str) (fun i σ H' => ∃ (y19 y20 : Option V) (urs : List URow), σ = [some (.ref b), some (.int most), some (.int kinds), some (.int many), some (.ref wl), some (.ref nl), some (.ref fl), some (.ref ul), some (.ref bs), some (.ref cl), some (.ref ft), y11, y12, y13, y14, some (.ref kt), y16, y17, some (.ref ut), y19, y20, none, none] ∧
            urs.map (·.nm) = uns.take i ∧ (∀ u ∈ urs, H' u.t = some (.tup (u.ms.map V.str)) ∧ u.ms.Nodup ∧ 1 ≤ u.ms.length ∧ u.ms.length ≤ 4 ∧ ∀ z ∈ u.ms, z ∈ ws.take many) ∧ (∀ k ∈ krs, k.At H') ∧ (∀ f ∈ frs, FldAt H' f.da f.fds) ∧ H' ft = some (.dK (fkvs frs)) ∧ H' kt = some (.dK (kkv krs)) ∧ H' ut = some (.dK (ukv urs)) ∧ Pre H' b r wl nl fl ul bs cl ws nm fcs uns l cm ∧ Gr b H H')
            ⟨none, none, [], rfl, rfl, (fun u m => by cases m), fun k m => (kat k m).1, fun f m => (fat f m).1, eF4, eK4, eU4, P4, g4'⟩ ?_ ?_ ?_
          · rintro i σ H' _ ⟨_, _, urs, _, _, _, _, _, _, _, _, Pz, _⟩
            exact SqL.of Pz.hu
          · rintro i x σ H5 ex ⟨y19, y20, urs, rfl, unm, hu5, hk5, hf5, eF5, eK5, eU5, P5, g5⟩
            rw [List.getElem?_map] at ex
            cases er : uns[i]? with
            | none => rw [er] at ex; cases ex
            | some un =>
              rw [er] at ex
              cases ex
              have hi := (List.getElem?_eq_some_iff.mp er).1
              have hlen : urs.length = i := by
                have e := congrArg List.length unm
                rw [List.length_map, List.length_take] at e
                omega
              -- own
              refine ⟨.ref wl, rfl, .int many, rfl, many, rfl, wl, ws.map V.str, rfl, SqL.of P5.hw, fun sl nsl => ⟨sl, rfl, ⟨_, SqL.of upd_same⟩, fun ow now => ?_⟩⟩
              rw [cut_to (by omega), ← List.map_take] at now ⊢
              have B6 := P5.B.new (o := .lst ((ws.take many).map V.str)) nsl
              have g6 : Gr b H5 (upd H5 sl (.lst ((ws.take many).map V.str))) := Gr.new nsl
              have es6 : (upd H5 sl (.lst ((ws.take many).map V.str))) sl = some (.lst ((ws.take many).map V.str)) := upd_same
              have nslb := P5.B.neb nsl
              generalize upd H5 sl (.lst ((ws.take many).map V.str)) = H6 at B6 g6 es6 now
              have nob := B6.neb now
              have nor := B6.ner now
              refine lc_list (xs := (ws.take many).map V.str) (fun j H' => ∃ os : List Str, os.Nodup ∧ (∀ z ∈ os, z ∈ (ws.take many).take j) ∧ Gr b H6 H' ∧ Box H' b r ∧ H' ow = some (.lst (os.map V.str))) ⟨[], List.nodup_nil, (fun z m => by cases m), Gr.new now, B6.new now, upd_same⟩
                (fun j H' _ p => by
                  obtain ⟨os, _, _, g, _, _⟩ := p
                  exact SqL.of (g _ _ nslb es6)) ?_ ?_
              · rintro j x H7 ex ⟨os, osn, oss, g7, B7, e7⟩
                cases ej : (ws.take many)[j]? with
                | none => rw [List.getElem?_map, ej] at ex; cases ex
                | some wd =>
                  rw [List.getElem?_map, ej] at ex
                  cases ex
                  have tk : (ws.take many).take (j + 1) = (ws.take many).take j ++ [wd] := by rw [List.take_add_one, ej]; rfl
                  have tnd : (ws.take many).Nodup := hwnd.sublist (List.take_sublist _ _)
                  have wnew : wd ∉ (ws.take many).take j := by
                    have := name_new (f := fun z : Str => z) (ks := ws.take many) (by rw [List.map_id']; exact tnd) ej
                    rw [List.map_id'] at this
                    exact this
                  have osl : os.length ≤ many := by
                    have := len_le_of_sub osn fun z m => List.mem_of_mem_take (oss z m)
                    omega
                  refine ⟨rfl, .ref b, rfl, b, r, 2, rfl, B7, by decide, by decide, fun dd H8 _ _ g8 B8 => ⟨rfl, _, rfl, ite2 (fun e => ?_) (fun e => ?_)⟩⟩
                  · refine ⟨.str wd, rfl, _, g8 _ _ nob e7, ?_, os ++ [wd], ?_, fun z m => ?_, (g7.trans g8).upd now, B8.upd nob nor, ?_⟩
                    · rw [List.length_map]
                      exact Nat.lt_of_le_of_lt (show os.length ≤ 1000 by omega) (by decide)
                    · exact List.nodup_append.mpr ⟨osn, by simp, fun a ha b hb e => wnew (by rw [show wd = a from (e.trans (List.mem_singleton.mp hb)).symm]; exact oss a ha)⟩
                    · rw [tk]
                      rcases List.mem_append.mp m with m | m
                      · exact List.mem_append_left _ (oss z m)
                      · exact List.mem_append_right _ m
                    · rw [upd_same, List.map_append]
                      rfl
                  · exact ⟨os, osn, fun z m => by rw [tk]; exact List.mem_append_left _ (oss z m), g7.trans g8, B8, g8 _ _ nob e7⟩
              · rintro H7 ⟨os, osn, oss, g7, B7, e7⟩
                rw [List.length_map, List.take_length] at oss
                have osl : os.length ≤ many := by
                  have := len_le_of_sub osn oss
                  omega
                have osN : ∀ z ∈ os, IsName z := fun z m => (hwok z (List.mem_of_mem_take (oss z m))).1
                -- own[:4]
                refine ⟨.ref ow, rfl, 4, rfl, ow, _, rfl, SqL.of e7, fun o4 no4 => ?_⟩
                rw [show (4 : Int) = ((4 : Nat) : Int) from rfl, cut_to', ← List.map_take]
                have s8 : Same H7 (upd H7 o4 (.lst ((os.take 4).map V.str))) := same_new no4
                have e84 : (upd H7 o4 (.lst ((os.take 4).map V.str))) o4 = some (.lst ((os.take 4).map V.str)) := upd_same
                have B8 := B7.new (o := .lst ((os.take 4).map V.str)) no4
                have no4b := B7.neb no4
                generalize upd H7 o4 (.lst ((os.take 4).map V.str)) = H8 at s8 e84 B8
                -- own == []
                refine ⟨.ref ow, rfl, Nat.zero_le _, fun e0 ne0 => ?_⟩
                have s9 : Same H8 (upd H8 e0 (.lst [])) := same_new ne0
                have e90 : (upd H8 e0 (.lst [])) e0 = some (.lst []) := upd_same
                have B9 := B8.new (o := .lst []) ne0
                generalize upd H8 e0 (.lst []) = H9 at s9 e90 B9
                have e97 := s9 _ _ (s8 _ _ e7)
                have e94 := s9 _ _ e84
                refine ⟨.list (os.map PyData.str), .list [], .lst (SqL.of e97) (dp_strs os), .lst (SqL.of e90) .nil, shaped_strs osN, shaped_strs (l := []) (fun z m => by cases m), .inr ⟨_, rfl, ?_⟩⟩
                rw [eqv_nil]
                have g69 : Gr b H6 H9 := g7.trans ((gr_x s8).trans (gr_x s9))
                have P9 := P5.gl (g6.trans g69).gl B9
                -- what is taken in the end
                have fin : ∀ (H12 : Hp) (p2 : Addr) (ms : List Str) (y20' : Option V), Gr b H5 H12 → Box H12 b r → H12 p2 = some (.lst (ms.map V.str)) → ms.Nodup → 1 ≤ ms.length → ms.length ≤ 4 → (∀ z ∈ ms, z ∈ ws.take many) → p2 ≠ b → ∀ (Z : L2.St → Hp → Prop), True := fun _ _ _ _ _ _ _ _ _ _ _ _ _ => trivial
                have hd4 : (os.take 4).Nodup := osn.sublist (List.take_sublist _ _)
                have hs4 : ∀ z ∈ os.take 4, z ∈ ws.take many := fun z m => oss z (List.mem_of_mem_take m)
                have hl4 : (os.take 4).length ≤ 4 := List.length_take_le _ _
                -- the items that are added: none, or one if there are none
                refine ⟨_, rfl, (by split <;> decide), (by split <;> decide), fun ad nad => ?_⟩
                have nadb := B9.neb nad
                have nadr := B9.ner nad
                refine lc_range (lo := 0) (n := (if (os.length == 0) = true then (1 : Int) else 0).toNat) (fun j H' => ∃ ax : List Str, ax.length = j ∧ (∀ z ∈ ax, z ∈ ws.take many) ∧ Gr b H9 H' ∧ Box H' b r ∧ H' ad = some (.lst (ax.map V.str))) ⟨[], rfl, (fun z m => by cases m), Gr.new nad, B9.new nad, upd_same⟩ ?_ ?_
                · rintro j H10 hj ⟨ax, axl, axs, g10, B10, e10⟩
                  have hj1 : j < 1 := by
                    have : (if (os.length == 0) = true then (1 : Int) else 0).toNat ≤ 1 := by split <;> decide
                    omega
                  refine ⟨rfl, lcT ⟨.ref wl, rfl, .ref b, rfl, .int many, rfl, b, r, many, rfl, B10, by omega, by omega, fun dd H11 dd0 dd1 g11 B11 => ?_⟩⟩
                  obtain ⟨dd, rfl⟩ := Int.eq_ofNat_of_zero_le dd0
                  have hdd : dd < many := by omega
                  have hwd : ws[dd]? = some (ws[dd]'(by omega)) := List.getElem?_eq_getElem _
                  generalize ws[dd]'(by omega) = wd at hwd
                  have wm : wd ∈ ws.take many := List.mem_of_getElem? (i := dd) (by rw [List.getElem?_take_of_lt hdd]; exact hwd)
                  have P11 := P9.gl (g10.trans g11).gl B11
                  refine ⟨wl, _, dd, .str wd, rfl, rfl, SqL.of P11.hw, atI_nat (by rw [List.getElem?_map, hwd]; rfl), _, g11 _ _ nadb e10, ?_, ax ++ [wd], ?_, fun z m => ?_, (g10.trans g11).upd nad, B11.upd nadb nadr, ?_⟩
                  · rw [List.length_map]
                    exact Nat.lt_of_le_of_lt (show ax.length ≤ 1000 by omega) (by decide)
                  · rw [List.length_append, axl]; rfl
                  · rcases List.mem_append.mp m with m | m
                    · exact axs z m
                    · rw [List.mem_singleton.mp m]; exact wm
                  · rw [upd_same, List.map_append]
                    rfl
                · rintro H10 ⟨ax, axl, axs, g10, B10, e10⟩
                  have e104 := g10 _ _ no4b e94
                  have al : ax.length ≤ 1 := by
                    rw [axl]
                    split <;> decide
                  refine ⟨o4, ad, _, _, rfl, rfl, e104, e10, hS _ (by rw [List.length_map, List.length_map]; omega), fun p2 np2 => ?_⟩
                  have e11 : (upd H10 p2 (.lst ((os.take 4).map V.str ++ ax.map V.str))) p2 = some (.lst ((os.take 4 ++ ax).map V.str)) := by rw [upd_same, List.map_append]
                  have g59 : Gr b H5 H10 := (g6.trans g69).trans g10
                  have g511 : Gr b H5 (upd H10 p2 (.lst ((os.take 4).map V.str ++ ax.map V.str))) := g59.trans (Gr.new np2)
                  have B11 := B10.new (o := .lst ((os.take 4).map V.str ++ ax.map V.str)) np2
                  generalize upd H10 p2 (.lst ((os.take 4).map V.str ++ ax.map V.str)) = H11 at e11 g511 B11
                  have mprop : (os.take 4 ++ ax).Nodup ∧ 1 ≤ (os.take 4 ++ ax).length ∧ (os.take 4 ++ ax).length ≤ 4 ∧ ∀ z ∈ os.take 4 ++ ax, z ∈ ws.take many := by
                    cases os with
                    | nil =>
                      have a1 : ax.length = 1 := axl
                      obtain ⟨x, rfl⟩ := List.length_eq_one_iff.mp a1
                      exact ⟨by simp, by simp, by simp, fun z m => axs z (by simpa using m)⟩
                    | cons o os' =>
                      have a0 : ax.length = 0 := axl
                      obtain rfl := List.length_eq_zero_iff.mp a0
                      rw [List.append_nil]
                      exact ⟨hd4, by rw [List.length_take, List.length_cons]; omega, hl4, hs4⟩
                  generalize os.take 4 ++ ax = ms at e11 mprop
                  obtain ⟨m1, m2, m3, m4⟩ := mprop
                  -- union_table[union] = tuple(own[::-1])
                  refine ⟨.ref p2, rfl, p2, _, rfl, SqL.of e11, fun p3 np3 => ⟨p3, _, rfl, .inl ⟨SqL.of upd_same, fun p4 np4 => ?_⟩⟩⟩
                  rw [← List.map_reverse] at np4 ⊢
                  have g512 : Gr b H5 (upd (upd H11 p3 (.lst (ms.reverse.map V.str))) p4 (.tup (ms.reverse.map V.str))) := g511.trans ((Gr.new np3).trans (Gr.new np4))
                  have B12 := (B11.new (o := .lst (ms.reverse.map V.str)) np3).new (o := .tup (ms.reverse.map V.str)) np4
                  have e12 : (upd (upd H11 p3 (.lst (ms.reverse.map V.str))) p4 (.tup (ms.reverse.map V.str))) p4 = some (.tup (ms.reverse.map V.str)) := upd_same
                  generalize upd (upd H11 p3 (.lst (ms.reverse.map V.str))) p4 (.tup (ms.reverse.map V.str)) = H12 at g512 B12 e12
                  have eU12 := g512 _ _ nub eU5
                  obtain ⟨bx5, ebx5⟩ := P5.B.lst
                  refine ⟨.ref ut, rfl, .str un, rfl, ut, _, rfl, DPut.k (k := Sum.inr un) eU12 ?_, ?_⟩
                  · rw [show (ukv urs).length = urs.length from List.length_map ..]
                    exact Nat.lt_of_le_of_lt (show urs.length ≤ 1000 by omega) (by decide)
                  have unew : un ∉ urs.map (·.nm) := by
                    rw [unm]
                    have := name_new (f := fun z : Str => z) (ks := uns) (by rw [List.map_id']; exact und) er
                    rw [List.map_id'] at this
                    exact this
                  rw [show putK (ukv urs) (Sum.inr un) (.ref p4) = ukv (urs ++ [⟨un, p4, ms.reverse⟩]) from put_snoc (f := fun k : URow => k.nm) (g := fun k => V.ref k.t) (r := ⟨un, p4, ms.reverse⟩) unew]
                  have P12 := P5.gl g512.gl B12
                  have tup12 : ∀ {a : Addr} {xs : List V}, H12 a = some (.tup xs) → (upd H12 ut (.dK (ukv (urs ++ [⟨un, p4, ms.reverse⟩])))) a = some (.tup xs) := fun e => by
                    rw [upd_ne (ne_of e eU12 (by intro z; cases z))]
                    exact e
                  refine ⟨_, _, urs ++ [⟨un, p4, ms.reverse⟩], rfl, ?_, fun u m => ?_, fun k m => ((hk5 k m).gr (Oth.lst ebx5) g512).put eU12 (kat k m).2, fun f m => ((hf5 f m).gr (Oth.lst ebx5) g512).put eU12 (fat f m).2, ?_, ?_, upd_same, P12.gl (Gl.upd eU12) (B12.upd nub nur), (g5.trans g512).upd nu0⟩
                  · rw [List.map_append, unm, List.take_add_one, er]
                    rfl
                  · rcases List.mem_append.mp m with m | m
                    · exact ⟨tup12 (g512 _ _ ((Oth.lst ebx5).net (hu5 u m).1) (hu5 u m).1), (hu5 u m).2⟩
                    · obtain rfl := List.mem_singleton.mp m
                      exact ⟨tup12 e12, (List.reverse_perm ms).nodup_iff.mpr m1, by show 1 ≤ ms.reverse.length; rw [List.length_reverse]; exact m2, by show ms.reverse.length ≤ 4; rw [List.length_reverse]; exact m3, fun z mz => m4 z (List.mem_reverse.mp mz)⟩
                  · rw [upd_ne nuf.symm]
                    exact g512 _ _ nftb eF5
                  · rw [upd_ne nuk.symm]
                    exact g512 _ _ nkb eK5
          · rintro σ H5 ⟨y19, y20, urs, rfl, unm, hu5, hk5, hf5, eF5, eK5, eU5, P5, g5⟩
            rw [List.length_map, List.take_length] at unm
            -- return
            refine ⟨.ref kt, rfl, .ref ft, rfl, .ref ut, rfl, .ref wl, rfl, .ref b, rfl, .int many, rfl, b, r, many, rfl, P5.B, by omega, by omega, fun dd H6 dd0 dd1 g6 B6 => ?_⟩
            obtain ⟨dd, rfl⟩ := Int.eq_ofNat_of_zero_le dd0
            have hdd : dd < many := by omega
            have hwd : ws[dd]? = some (ws[dd]'(by omega)) := List.getElem?_eq_getElem _
            generalize ws[dd]'(by omega) = root at hwd
            have wm : root ∈ ws.take many := List.mem_of_getElem? (i := dd) (by rw [List.getElem?_take_of_lt hdd]; exact hwd)
            have P6 := P5.gl g6.gl B6
            obtain ⟨bx5, ebx5⟩ := P5.B.lst
            refine ⟨wl, _, dd, .str root, rfl, rfl, SqL.of P6.hw, atI_nat (by rw [List.getElem?_map, hwd]; rfl), by show 4 ≤ sizeLine; decide, fun q1 nq1 => ?_⟩
            have sm : Same H6 (upd H6 q1 (.tup [.ref kt, .ref ft, .ref ut, .str root])) := same_new nq1
            have S6 : SchAt H6 kt ft ut krs frs urs := ⟨g6 _ _ nkb eK5, g6 _ _ nftb eF5, g6 _ _ nub eU5, fun k m => (hk5 k m).gr (Oth.lst ebx5) g6, fun f m => (hf5 f m).gr (Oth.lst ebx5) g6, fun u m => g6 _ _ ((Oth.lst ebx5).net (hu5 u m).1) (hu5 u m).1⟩
            have ebs : bsOf krs frs urs = l := by
              unfold bsOf
              rw [knm, hnm, unm, ← hl]
            have tx : ∀ z ∈ l, PyData.strOk z = true := fun z m => by
              rw [← hl] at m
              rcases List.mem_append.mp m with m | m
              · rcases List.mem_cons.mp m with rfl | m
                · decide +kernel
                · rw [List.mem_singleton.mp m]
                  decide +kernel
              · rcases List.mem_append.mp m with m | m
                · exact (hwok z (List.mem_of_mem_take m)).1.tx
                · rcases List.mem_append.mp m with m | m
                  · exact (hwok z (fsub z m)).1.tx
                  · exact (hwok z (usub z m)).1.tx
            refine q q1 kt ft ut krs frs urs root _ upd_same (S6.same sm) ⟨?_, ?_, ?_, ?_, ?_, ?_, ?_, ?_, ?_, ?_, ?_, ?_, ?_, ?_, ?_⟩ ⟨nm, by omega, fun k m f mf => ((kpr k m).2.2.2.2.2.1 f mf).1⟩ ((g5.trans g6).trans (Gr.new nq1)) (B6.new nq1)
            · have e := congrArg List.length knm
              rw [List.length_map, lt] at e
              omega
            · have e := congrArg List.length knm
              rw [List.length_map, lt] at e
              omega
            · have e := congrArg List.length hnm
              rw [List.length_map, lf] at e
              omega
            · have e := congrArg List.length unm
              rw [List.length_map, lu] at e
              omega
            · rw [ebs, ← hl]
              refine List.nodup_append.mpr ⟨by decide +kernel, ?_, fun a ha c hc e => ?_⟩
              · rw [← hfcs, ← huns]
                exact hwnd.sublist (parts_sub ws many nf nu hnf)
              · subst e
                have am : a ∈ ws := by
                  rcases List.mem_append.mp hc with m | m
                  · exact List.mem_of_mem_take m
                  · rcases List.mem_append.mp m with m | m
                    · exact fsub a m
                    · exact usub a m
                rcases List.mem_cons.mp ha with rfl | ha
                · exact (hwok _ am).2.2 rfl
                · rw [List.mem_singleton.mp ha] at am
                  exact (hwok _ am).2.1 rfl
            · intro k m
              have : k.nm ∈ ws.take many := by rw [← knm]; exact List.mem_map.mpr ⟨k, m, rfl⟩
              exact (hwok _ (List.mem_of_mem_take this)).1
            · intro k m
              exact (hwok _ (fsub _ (by rw [← hnm]; exact List.mem_map.mpr ⟨k, m, rfl⟩))).1
            · intro k m
              exact (hwok _ (usub _ (by rw [← unm]; exact List.mem_map.mpr ⟨k, m, rfl⟩))).1
            · intro k m
              obtain ⟨h1, h2, _⟩ := kpr k m
              refine ⟨h1, fun z mz => fnm z (h2 z mz), ?_⟩
              have := len_le_of_sub h1 h2
              omega
            · intro k m
              obtain ⟨_, _, h1, h2, h3, h4, _⟩ := kpr k m
              rw [ebs]
              exact ⟨h1, h2, h3, fun f mf => hnok f.1 (h4 f mf).1 |>.1, fun f mf => (h4 f mf).2, tx⟩
            · intro f m
              obtain ⟨_, h1, h2, h3, h4⟩ := hfp f m
              rw [ebs]
              refine ⟨h1, h2, h3, fun x mx => ?_, fun x mx => ?_, tx⟩
              · obtain ⟨j, hj, _⟩ := h4 x mx
                exact (hnok _ (List.mem_of_getElem? hj)).1
              · obtain ⟨j, _, hj⟩ := h4 x mx
                exact (P5.csh _ (List.mem_of_getElem? hj)).2
            · intro f m
              obtain ⟨j, hj, ej⟩ := List.getElem_of_mem (show f.nm ∈ fcs by rw [← hnm]; exact List.mem_map.mpr ⟨f, m, rfl⟩)
              exact hcov j f.nm (by rw [← ej]; exact List.getElem?_eq_getElem hj) (Nat.mod_lt _ (by omega))
            · intro f mf k mk hin x mx
              obtain ⟨_, _, _, _, _, _, h7⟩ := kpr k mk
              exact ⟨x, h7 f mf hin x mx, rfl, rfl⟩
            · intro u m
              obtain ⟨_, h1, h2, h3, h4⟩ := hu5 u m
              exact ⟨h1, h2, h3, fun z mz => by rw [knm]; exact h4 z mz⟩
            · rw [knm]
              exact wm
end
end NW
namespace NW
open PySem PySem.Spec PyProof.Rows L2
open TL (tl)
open StX (pa_star)
abbrev s_Schema_bases : Stmt := inClass (topS 69) 3
abbrev N_Schema_bases : List Str := ["self"]
theorem sc_Schema_bases : FnScope N_Schema_bases ["self"] (defScope s_Schema_bases) := ⟨rfl, rfl, rfl, by decide +kernel, rfl, by decide +kernel, by decide +kernel⟩
abbrev s_Schema_contains : Stmt := inClass (topS 69) 2
abbrev N_Schema_contains : List Str := ["self", "base"]
theorem sc_Schema_contains : FnScope N_Schema_contains ["self", "base"] (defScope s_Schema_contains) := ⟨rfl, rfl, rfl, by decide +kernel, rfl, by decide +kernel, by decide +kernel⟩
abbrev s_Schema_kinds : Stmt := inClass (topS 69) 4
abbrev N_Schema_kinds : List Str := ["self"]
theorem sc_Schema_kinds : FnScope N_Schema_kinds ["self"] (defScope s_Schema_kinds) := ⟨rfl, rfl, rfl, by decide +kernel, rfl, by decide +kernel, by decide +kernel⟩
abbrev s_Schema_faces : Stmt := inClass (topS 69) 5
abbrev N_Schema_faces : List Str := ["self"]
theorem sc_Schema_faces : FnScope N_Schema_faces ["self"] (defScope s_Schema_faces) := ⟨rfl, rfl, rfl, by decide +kernel, rfl, by decide +kernel, by decide +kernel⟩
abbrev s_Schema_unions : Stmt := inClass (topS 69) 6
abbrev N_Schema_unions : List Str := ["self"]
theorem sc_Schema_unions : FnScope N_Schema_unions ["self"] (defScope s_Schema_unions) := ⟨rfl, rfl, rfl, by decide +kernel, rfl, by decide +kernel, by decide +kernel⟩
theorem map_eq_of_rel {α : Type} {f : α → Str} {ks rs : List α} (hl : rs.length = ks.length) (h : ∀ (j : Nat) (a b : α), ks[j]? = some a → rs[j]? = some b → f b = f a) : rs.map f = ks.map f := by
  have := rel_names (i := ks.length) hl (Nat.le_refl _) h
  rw [List.take_length] at this
  exact this
theorem BuiltAt.names {C : Addr} {H : Hp} {x : Addr} {ks : List KRow} {fs : List FRow} {us : List URow} {root : Str} (_ : BuiltAt C H x ks fs us root) : ∀ ks' fs' us', RelK ks ks' → RelF fs fs' → RelU us us' →
    (ks'.map (·.nm) = ks.map (·.nm) ∧ fs'.map (·.nm) = fs.map (·.nm) ∧ us'.map (·.nm) = us.map (·.nm)) := fun ks' fs' us' rk rf ru =>
  ⟨map_eq_of_rel (f := fun k : KRow => k.nm) rk.1 fun j a b ea eb => (rk.2 j a b ea eb).1, map_eq_of_rel (f := fun k : FRow => k.nm) rf.1 fun j a b ea eb => (rf.2 j a b ea eb).1, map_eq_of_rel (f := fun k : URow => k.nm) ru.1 fun j a b ea eb => (ru.2 j a b ea eb).1⟩
theorem BuiltAt.gr {C b : Addr} {H H' : Hp} {x : Addr} {ks : List KRow} {fs : List FRow} {us : List URow} {root : Str} (hb : Oth H b) (g : Gr b H H') (n : x ≠ b) (h : BuiltAt C H x ks fs us root) : BuiltAt C H' x ks fs us root := by
  obtain ⟨dx, kt, ft, ut, ks', fs', us', hx, S, rk, rf, ru⟩ := h
  exact ⟨dx, kt, ft, ut, ks', fs', us', g _ _ n hx, S.gr hb g, rk, rf, ru⟩
theorem BuiltAt.same {C : Addr} {H H' : Hp} {x : Addr} {ks : List KRow} {fs : List FRow} {us : List URow} {root : Str} (g : Same H H') (h : BuiltAt C H x ks fs us root) : BuiltAt C H' x ks fs us root := by
  obtain ⟨dx, kt, ft, ut, ks', fs', us', hx, S, rk, rf, ru⟩ := h
  exact ⟨dx, kt, ft, ut, ks', fs', us', g _ _ hx, S.same g, rk, rf, ru⟩
section
variable {P : Program} {w : World} {K : PySem.W.Frag} {mg : Str → Option Value} {base : Heap}

/-- a method of the class at C -/
structure Mt (K : PySem.W.Frag) (C : Addr) (x q : Str) (st : Stmt) (f : Addr) (fd : FuncData) (ps : List Str) : Prop where
  F : Fun K x q st f fd
  b : Binds K fd ps []
  m : Meth K C x f
theorem TyX.same {H H' : Hp} {x : V} {t : Value} (s : Same H H') (h : TyX K H x t) : TyX K H' x t := by
  cases h with
  | base h =>
    cases h with
    | non => exact .base .non
    | bl b => exact .base (.bl b)
    | int i => exact .base (.int i)
    | str z => exact .base (.str z)
    | flt z => exact .base (.flt z)
    | lst e => exact .base (.lst (s _ _ e))
    | frz e => exact .base (.frz (s _ _ e))
    | tup e => exact .base (.tup (s _ _ e))
    | dK e => exact .base (.dK (s _ _ e))
    | dT e => exact .base (.dT (s _ _ e))
    | ins e cl ha hn htk hm => exact .base (.ins (s _ _ e) cl ha hn htk hm)
  | byt b => exact .byt b
  | set e => exact .set (s _ _ e)
  | kList e c => exact .kList e c
  | kTuple e c => exact .kTuple e c
  | kDict e c => exact .kDict e c
  | fTuple e => exact .fTuple (s _ _ e)
  | fDict e => exact .fDict (s _ _ e)
def spBases (C : Addr) : Sp := fun vs H Q _ => ∃ (x : Addr) (ks : List KRow) (fs : List FRow) (us : List URow) (root : Str), vs = [.ref x] ∧ BuiltAt C H x ks fs us root ∧ ks.length ≤ 6 ∧ fs.length ≤ 3 ∧ us.length ≤ 3 ∧
  ∀ p H', Same H H' → H p = none → H' p = some (.lst ((bsOf ks fs us).map V.str)) → Q (.ref p) H'
theorem ok_bases {f C : Addr} {fd : FuncData} (F : Fun K "bases" "Schema.bases" s_Schema_bases f fd) (L : ClT K C) (Cs : Cst K mg) : FnOk P w K mg base CX0 1 f fd ["self"] (spBases C) := by
  obtain ⟨la, g_L, hL⟩ := Cs.LEAVES
  refine F.ok sc_Schema_bases (fun vs H Q E h => ?_) (fun cdv A outer s H vs Q E hr h => ?_)
  · obtain ⟨x, ks, fs, us, root, rfl, _⟩ := h
    rfl
  · obtain ⟨x, ks, fs, us, root, rfl, Bt, k6, f3, u3, q⟩ := h
    have hnm := Bt.names
    obtain ⟨dx, kt, ft, ut, ks', fs', us', hx, S, rk, rf, ru⟩ := Bt
    obtain ⟨e1, e2, e3⟩ := hnm ks' fs' us' rk rf ru
    refine ⟨_, (pss_one (ps_ret (pe_lst (pa_star (pe_glob (v := .ref la) (by rfl) g_L rfl) (pa_starD rfl (pe_fld (pv 0) rfl) (pa_starD rfl (pe_fld (pv 0) rfl) (pa_starD rfl (pe_fld (pv 0) rfl) pa_nil))))))), ?_⟩
    refine ⟨la, _, rfl, .inl (hL H), .ref x, rfl, x, C, dx, _, _, rfl, hx, L.cl, L.nk, lkk .., kt, kkv ks', rfl, .inl S.kd, .ref x, rfl, x, C, dx, _, _, rfl, hx, L.cl, L.nf, lkf .., ft, fkvs fs', rfl, .inl S.fd, .ref x, rfl, x, C, dx, _, _, rfl, hx, L.cl, L.nu, lku .., ut, ukv us', rfl, .inl S.ud, ?_, fun p np => ?_⟩
    · show ([V.str "number", V.str "text"] ++ (dkeys (kkv ks') ++ (dkeys (fkvs fs') ++ (dkeys (ukv us') ++ [])))).length ≤ sizeLine
      have l1 := rk.1
      have l2 := rf.1
      have l3 := ru.1
      rw [List.length_append, List.length_append, List.length_append, List.length_append, dkeys_len, dkeys_len, dkeys_len, show (kkv ks').length = ks'.length from List.length_map .., show (fkvs fs').length = fs'.length from List.length_map .., show (ukv us').length = us'.length from List.length_map ..]
      exact Nat.le_trans (show 2 + (ks'.length + (fs'.length + (us'.length + 0))) ≤ 1000 by omega) (by decide)
    · have el : ([V.str "number", V.str "text"] ++ (dkeys (kkv ks') ++ (dkeys (fkvs fs') ++ (dkeys (ukv us') ++ [])))) = (bsOf ks fs us).map V.str := by
        rw [dkeys_k, dkeys_f, dkeys_u]
        unfold bsOf
        rw [List.append_nil, List.map_append, List.map_append, List.map_append, e1, e2, e3]
        rfl
      refine q p _ (same_new np) np ?_
      show (upd H p (.lst ([V.str "number", V.str "text"] ++ (dkeys (kkv ks') ++ (dkeys (fkvs fs') ++ (dkeys (ukv us') ++ [])))))) p = _
      rw [el]
      exact upd_same
def spContains (K : PySem.W.Frag) (C : Addr) : Sp := fun vs H Q _ => ∃ (x : Addr) (y : V) (ks : List KRow) (fs : List FRow) (us : List URow) (root : Str), vs = [.ref x, y] ∧ BuiltAt C H x ks fs us root ∧ ks.length ≤ 6 ∧ fs.length ≤ 3 ∧ us.length ≤ 3 ∧
  ((∃ z, y = .str z ∧ ∀ H', Same H H' → Q (.bl (decide (z ∈ bsOf ks fs us))) H') ∨ (∃ t, TyX K H y t ∧ PySem.W.kitOne K t (.type "str") = some false ∧ ∀ H', Same H H' → Q (.bl false) H'))
theorem ok_contains {f f1 f2 C : Addr} {fd fd1 fd2 : FuncData} (F : Fun K "__contains__" "Schema.__contains__" s_Schema_contains f fd) (M_bases : Mt K C "bases" "Schema.bases" s_Schema_bases f1 fd1 ["self"]) (D_is_key : Df K mg "is_key" s_is_key f2 fd2 ["name", "table"]) (T : Nms mg) (L : ClT K C)
    (G_bases : FnOk P w K mg base CX0 1 f1 fd1 ["self"] (spBases C)) (G_is_key : FnOk P w K mg base CX0 1 f2 fd2 ["name", "table"] (spIsKey K)) : FnOk P w K mg base CX0 2 f fd ["self", "base"] (spContains K C) := by
  refine F.ok sc_Schema_contains (fun vs H Q E h => ?_) (fun cdv A outer s H vs Q E hr h => ?_)
  · obtain ⟨x, y, ks, fs, us, root, rfl, _⟩ := h
    rfl
  · obtain ⟨x, y, ks, fs, us, root, rfl, Bt, k6, f3, u3, q⟩ := h
    have Bt' := Bt
    obtain ⟨dx, kt, ft, ut, ks', fs', us', hx, S, rk, rf, ru⟩ := Bt'
    refine ⟨_, (pss_one (ps_ret (pe_call G_is_key (hr.mono (by decide)) (by rfl) D_is_key.g D_is_key.F.kp D_is_key.b .nil pass0 (pa_cons (pv 1) (pa_cons (pe_meth0 (pv 0) L.cl M_bases.m G_bases (hr.mono (by decide)) M_bases.b .nil pass0) pa_nil))))), ?_⟩
    refine ⟨y, rfl, .ref x, rfl, x, dx, _, rfl, hx, lkn _ _ _ _ (by decide +kernel) (by decide +kernel) (by decide +kernel) (by decide +kernel), x, ks, fs, us, root, rfl, Bt, k6, f3, u3, fun p H1 s1 np e1 => ?_⟩
    rcases q with ⟨z, rfl, q⟩ | ⟨t, ht, hk, q⟩
    · exact ⟨.str z, p, rfl, .inl ⟨z, rfl, .inl ⟨_, .inl (SqL.of e1), q _ s1⟩⟩⟩
    · exact ⟨y, p, rfl, .inr ⟨t, NW.TyX.same s1 ht, hk, q _ s1⟩⟩

def sp_kinds (C : Addr) : Sp := fun vs H Q _ => ∃ (x : Addr) (ks : List KRow) (fs : List FRow) (us : List URow) (root : Str), vs = [.ref x] ∧ BuiltAt C H x ks fs us root ∧ ks.length ≤ 6 ∧ fs.length ≤ 3 ∧ us.length ≤ 3 ∧
  ∀ (ys : List Str) (p : Addr) H', ys.Perm (ks.map (·.nm)) → sortedS ys = true → Same H H' → H p = none → H' p = some (.lst (ys.map V.str)) → Q (.ref p) H'
theorem ok_kinds {f C : Addr} {fd : FuncData} (F : Fun K "kinds" "Schema.kinds" s_Schema_kinds f fd) (T : Nms mg) (L : ClT K C) : FnOk P w K mg base CX0 1 f fd ["self"] (sp_kinds C) := by
  refine F.ok sc_Schema_kinds (fun vs H Q E h => ?_) (fun cdv A outer s H vs Q E hr h => ?_)
  · obtain ⟨x, ks, fs, us, root, rfl, _⟩ := h
    rfl
  · obtain ⟨x, ks, fs, us, root, rfl, Bt, k6, f3, u3, q⟩ := h
    have hnm := Bt.names
    obtain ⟨dx, kt, ft, ut, ks', fs', us', hx, S, rk, rf, ru⟩ := Bt
    obtain ⟨e1, e2, e3⟩ := hnm ks' fs' us' rk rf ru
    refine ⟨_, (pss_one (ps_ret (pe_callB (call_sortedD rfl) (by rfl) T.n_sorted (by decide +kernel) (pa_cons (pe_fld (pv 0) rfl) pa_nil)))), ?_⟩
    refine ⟨.ref x, rfl, x, C, dx, _, _, rfl, hx, L.cl, L.nk, lkk .., kt, kkv ks', _, rfl, .inl S.kd, kkv_keys _, ?_, fun ys p pm so np => ?_⟩
    · have := rk.1
      rw [List.length_map]
      omega
    · refine q ys p _ ?_ so (same_new np) np upd_same
      rw [← e1]
      exact pm

def sp_faces (C : Addr) : Sp := fun vs H Q _ => ∃ (x : Addr) (ks : List KRow) (fs : List FRow) (us : List URow) (root : Str), vs = [.ref x] ∧ BuiltAt C H x ks fs us root ∧ ks.length ≤ 6 ∧ fs.length ≤ 3 ∧ us.length ≤ 3 ∧
  ∀ (ys : List Str) (p : Addr) H', ys.Perm (fs.map (·.nm)) → sortedS ys = true → Same H H' → H p = none → H' p = some (.lst (ys.map V.str)) → Q (.ref p) H'
theorem ok_faces {f C : Addr} {fd : FuncData} (F : Fun K "faces" "Schema.faces" s_Schema_faces f fd) (T : Nms mg) (L : ClT K C) : FnOk P w K mg base CX0 1 f fd ["self"] (sp_faces C) := by
  refine F.ok sc_Schema_faces (fun vs H Q E h => ?_) (fun cdv A outer s H vs Q E hr h => ?_)
  · obtain ⟨x, ks, fs, us, root, rfl, _⟩ := h
    rfl
  · obtain ⟨x, ks, fs, us, root, rfl, Bt, k6, f3, u3, q⟩ := h
    have hnm := Bt.names
    obtain ⟨dx, kt, ft, ut, ks', fs', us', hx, S, rk, rf, ru⟩ := Bt
    obtain ⟨e1, e2, e3⟩ := hnm ks' fs' us' rk rf ru
    refine ⟨_, (pss_one (ps_ret (pe_callB (call_sortedD rfl) (by rfl) T.n_sorted (by decide +kernel) (pa_cons (pe_fld (pv 0) rfl) pa_nil)))), ?_⟩
    refine ⟨.ref x, rfl, x, C, dx, _, _, rfl, hx, L.cl, L.nf, lkf .., ft, fkvs fs', _, rfl, .inl S.fd, fkvs_keys _, ?_, fun ys p pm so np => ?_⟩
    · have := rf.1
      rw [List.length_map]
      omega
    · refine q ys p _ ?_ so (same_new np) np upd_same
      rw [← e2]
      exact pm

def sp_unions (C : Addr) : Sp := fun vs H Q _ => ∃ (x : Addr) (ks : List KRow) (fs : List FRow) (us : List URow) (root : Str), vs = [.ref x] ∧ BuiltAt C H x ks fs us root ∧ ks.length ≤ 6 ∧ fs.length ≤ 3 ∧ us.length ≤ 3 ∧
  ∀ (ys : List Str) (p : Addr) H', ys.Perm (us.map (·.nm)) → sortedS ys = true → Same H H' → H p = none → H' p = some (.lst (ys.map V.str)) → Q (.ref p) H'
theorem ok_unions {f C : Addr} {fd : FuncData} (F : Fun K "unions" "Schema.unions" s_Schema_unions f fd) (T : Nms mg) (L : ClT K C) : FnOk P w K mg base CX0 1 f fd ["self"] (sp_unions C) := by
  refine F.ok sc_Schema_unions (fun vs H Q E h => ?_) (fun cdv A outer s H vs Q E hr h => ?_)
  · obtain ⟨x, ks, fs, us, root, rfl, _⟩ := h
    rfl
  · obtain ⟨x, ks, fs, us, root, rfl, Bt, k6, f3, u3, q⟩ := h
    have hnm := Bt.names
    obtain ⟨dx, kt, ft, ut, ks', fs', us', hx, S, rk, rf, ru⟩ := Bt
    obtain ⟨e1, e2, e3⟩ := hnm ks' fs' us' rk rf ru
    refine ⟨_, (pss_one (ps_ret (pe_callB (call_sortedD rfl) (by rfl) T.n_sorted (by decide +kernel) (pa_cons (pe_fld (pv 0) rfl) pa_nil)))), ?_⟩
    refine ⟨.ref x, rfl, x, C, dx, _, _, rfl, hx, L.cl, L.nu, lku .., ut, ukv us', _, rfl, .inl S.ud, ukv_keys _, ?_, fun ys p pm so np => ?_⟩
    · have := ru.1
      rw [List.length_map]
      omega
    · refine q ys p _ ?_ so (same_new np) np upd_same
      rw [← e3]
      exact pm

end
end NW
namespace NW
open PySem PySem.Spec PyProof.Rows L2
open TL (tl)
open StX (pa_star)
abbrev s_Lsame : Stmt := topS 88
abbrev N_Lsame : List Str := ["_law_one", "_law_other", "_law_key_here", "_law_k"]
theorem sc_Lsame : FnScope N_Lsame ["_law_one", "_law_other"] (defScope s_Lsame) := ⟨rfl, rfl, rfl, by decide +kernel, rfl, by decide +kernel, by decide +kernel⟩
theorem ix_seqK {X : Cx} (K : PySem.W.Frag) (h : X.K = K := by rfl) : IxR X (rIx K) := h ▸ ix_seq
def Sc (x : V) : Prop := x = .non ∨ (∃ b, x = .bl b) ∨ (∃ i, x = .int i) ∨ ∃ z, x = .str z
/-- x and y are the same data, so deep; the dicts at L may be locked -/
def SameL : Nat → List Addr → Hp → V → V → Prop
  | 0, _, _, x, y => x = y ∧ Sc y
  | n + 1, L, H, x, y => (x = y ∧ Sc y) ∨
    (∃ a b xs ys, x = .ref a ∧ y = .ref b ∧ ((H a = some (.lst xs) ∧ H b = some (.lst ys)) ∨ (H a = some (.tup xs) ∧ H b = some (.tup ys))) ∧ xs.length = ys.length ∧ ys.length ≤ 1000 ∧ ∀ (i : Nat) u v, xs[i]? = some u → ys[i]? = some v → SameL n L H u v) ∨
    (∃ a b kvs lvs, x = .ref a ∧ y = .ref b ∧ a ∉ L ∧ b ∉ L ∧ H a = some (.dK kvs) ∧ H b = some (.dK lvs) ∧ kvs.length = lvs.length ∧ lvs.length ≤ 1000 ∧ (lvs.map (·.1)).Nodup ∧ ∀ k v, (k, v) ∈ lvs → ∃ u, valV kvs k = some u ∧ SameL n (b :: L) H u v)
/-- lists and tuples stand, and dicts but for those at L -/
def StL (L : List Addr) (H H' : Hp) : Prop := (∀ a xs, H a = some (.lst xs) → H' a = some (.lst xs)) ∧ (∀ a xs, H a = some (.tup xs) → H' a = some (.tup xs)) ∧ ∀ a kvs, a ∉ L → H a = some (.dK kvs) → H' a = some (.dK kvs)
theorem Same.stl {L : List Addr} {H H' : Hp} (s : Same H H') : StL L H H' := ⟨fun a _ e => s a _ e, fun a _ e => s a _ e, fun a _ _ e => s a _ e⟩
theorem StL.cons {L : List Addr} {H H' : Hp} {b : Addr} (s : StL L H H') : StL (b :: L) H H' := ⟨s.1, s.2.1, fun a kvs n e => s.2.2 a kvs (fun m => n (List.mem_cons_of_mem _ m)) e⟩
theorem StL.lock {L : List Addr} {H : Hp} {b : Addr} {kvs : List (Key × V)} {o : HO} (e : H b = some (.dK kvs)) : StL (b :: L) H (upd H b o) :=
  ⟨fun a xs h => by rw [upd_ne (ne_of h e (by intro z; cases z))]; exact h, fun a xs h => by rw [upd_ne (ne_of h e (by intro z; cases z))]; exact h, fun a lvs n h => by rw [upd_ne (fun z => n (List.mem_cons.mpr (.inl z)))]; exact h⟩
theorem StL.trans {L : List Addr} {H1 H2 H3 : Hp} (x : StL L H1 H2) (y : StL L H2 H3) : StL L H1 H3 := ⟨fun a xs e => y.1 a xs (x.1 a xs e), fun a xs e => y.2.1 a xs (x.2.1 a xs e), fun a kvs n e => y.2.2 a kvs n (x.2.2 a kvs n e)⟩
theorem SameL.st : ∀ {n : Nat} {L : List Addr} {H H' : Hp} {x y : V}, StL L H H' → SameL n L H x y → SameL n L H' x y := by
  intro n
  induction n with
  | zero => intro L H H' x y _ h; exact h
  | succ n ih =>
    rintro L H H' x y s (h | ⟨a, b, xs, ys, e1, e2, h, hl, h1, h2⟩ | ⟨a, b, kvs, lvs, e1, e2, na, nb, h1, h2, hl, h3, nd, h4⟩)
    · exact .inl h
    · refine .inr (.inl ⟨a, b, xs, ys, e1, e2, ?_, hl, h1, fun i u v eu ev => ih s (h2 i u v eu ev)⟩)
      rcases h with ⟨p, q⟩ | ⟨p, q⟩
      · exact .inl ⟨s.1 _ _ p, s.1 _ _ q⟩
      · exact .inr ⟨s.2.1 _ _ p, s.2.1 _ _ q⟩
    · refine .inr (.inr ⟨a, b, kvs, lvs, e1, e2, na, nb, s.2.2 _ _ na h1, s.2.2 _ _ nb h2, hl, h3, nd, fun k v m => ?_⟩)
      obtain ⟨u, eu, hu⟩ := h4 k v m
      exact ⟨u, eu, ih s.cons hu⟩
theorem SameL.up : ∀ {n : Nat} {L : List Addr} {H : Hp} {x y : V}, SameL n L H x y → SameL (n + 1) L H x y := by
  intro n
  induction n with
  | zero => intro L H x y h; exact .inl h
  | succ n ih =>
    rintro L H x y (h | ⟨a, b, xs, ys, e1, e2, h, hl, h1, h2⟩ | ⟨a, b, kvs, lvs, e1, e2, na, nb, h1, h2, hl, h3, nd, h4⟩)
    · exact .inl h
    · exact .inr (.inl ⟨a, b, xs, ys, e1, e2, h, hl, h1, fun i u v eu ev => ih (h2 i u v eu ev)⟩)
    · refine .inr (.inr ⟨a, b, kvs, lvs, e1, e2, na, nb, h1, h2, hl, h3, nd, fun k v m => ?_⟩)
      obtain ⟨u, eu, hu⟩ := h4 k v m
      exact ⟨u, eu, ih hu⟩
theorem SameL.upTo {n m : Nat} {L : List Addr} {H : Hp} {x y : V} (h : SameL n L H x y) (le : n ≤ m) : SameL m L H x y := by
  induction le with
  | refl => exact h
  | step _ ih => exact ih.up
/-- x and y are the same data, so deep -/
def SameV (n : Nat) (H : Hp) (x y : V) : Prop := SameL n [] H x y
theorem SameV.same {H H' : Hp} (s : Same H H') {n : Nat} {x y : V} (h : SameV n H x y) : SameV n H' x y := SameL.st (Same.stl s) h
theorem SameV.up {H : Hp} {n : Nat} {x y : V} (h : SameV n H x y) : SameV (n + 1) H x y := SameL.up h
theorem SameV.strs {H : Hp} {a b : Addr} {l : List Str} (ha : H a = some (.lst (l.map V.str))) (hb : H b = some (.lst (l.map V.str))) (hl : l.length ≤ 1000) : SameV 1 H (.ref a) (.ref b) :=
  .inr (.inl ⟨a, b, _, _, rfl, rfl, .inl ⟨ha, hb⟩, rfl, by rw [List.length_map]; exact hl, fun i u v eu ev => by
    rw [eu] at ev
    cases ev
    rw [List.getElem?_map] at eu
    cases e : l[i]? with
    | none => rw [e] at eu; cases eu
    | some z =>
      rw [e] at eu
      cases eu
      exact ⟨rfl, .inr (.inr (.inr ⟨z, rfl⟩))⟩⟩)
section
variable {P : Program} {w : World} {K : PySem.W.Frag} {mg : Str → Option Value} {base : Heap}

def spLsameL (n : Nat) : Sp := fun vs H Q _ => ∃ x y L, vs = [x, y] ∧ SameL n L H x y ∧ ∀ H', Same H H' → Q (.bl true) H'
def spLsame (n : Nat) : Sp := fun vs H Q _ => ∃ x y, vs = [x, y] ∧ SameV n H x y ∧ ∀ H', Same H H' → Q (.bl true) H'
theorem ok_LsameL {f : Addr} {fd : FuncData} (D_Lsame : Df K mg "_law_same" s_Lsame f fd ["_law_one", "_law_other"]) (T : Nms mg) : ∀ n : Nat, FnOk P w K mg base CX0 (n + 1) f fd ["_law_one", "_law_other"] (spLsameL n) := by
  intro n
  induction n with
  | zero =>
    refine D_Lsame.F.ok sc_Lsame (fun vs H Q E h => ?_) (fun cdv A outer s H vs Q E hr h => ?_)
    · obtain ⟨x, y, L, rfl, _⟩ := h
      rfl
    · obtain ⟨x, y, L, rfl, h, q⟩ := h
      refine ⟨_, (pss_cons (ps_if (pt_val (pe_callB call_isi (by rfl) T.n_isinstance (by decide +kernel) (pa_cons (pv 1) (pa_cons (pe_bltn (v := .ty "dict") (by rfl) T.n_dict (by decide +kernel) rfl) pa_nil)))) (pss_cons ps_never (pss_cons ps_never (pss_one ps_never))) pss_nil)
      (pss_cons (ps_if (PW.pt (pw_or (pt_val (pe_callB call_isi (by rfl) T.n_isinstance (by decide +kernel) (pa_cons (pv 1) (pa_cons (pe_bltn (v := .ty "list") (by rfl) T.n_list (by decide +kernel) rfl) pa_nil)))) (pw_or1 (pt_val (pe_callB call_isi (by rfl) T.n_isinstance (by decide +kernel) (pa_cons (pv 1) (pa_cons (pe_bltn (v := .ty "tuple") (by rfl) T.n_tuple (by decide +kernel) rfl) pa_nil))))))) (pss_cons ps_never (pss_cons ps_never (pss_one ps_never))) pss_nil)
      (pss_cons (ps_if (pt_cmpR op_isN (pv 1) pe_non (nomark _))
       (pss_one (ps_ret (pe_cmpR op_isN (pv 0) pe_non (nomark _))))
       pss_nil)
      (pss_cons (ps_if (pt_val (pe_callB call_isi (by rfl) T.n_isinstance (by decide +kernel) (pa_cons (pv 1) (pa_cons (pe_bltn (v := .ty "str") (by rfl) T.n_str (by decide +kernel) rfl) pa_nil))))
       (pss_one (ps_ret (pe_and (pe_callB call_isi (by rfl) T.n_isinstance (by decide +kernel) (pa_cons (pv 0) (pa_cons (pe_bltn (v := .ty "str") (by rfl) T.n_str (by decide +kernel) rfl) pa_nil))) (pe_one (pe_cmpR op_eq (pv 0) (pv 1) (nomark _))))))
       pss_nil)
      (pss_one (ps_ret (pe_and (pe_callB call_isi (by rfl) T.n_isinstance (by decide +kernel) (pa_cons (pv 0) (pa_cons (pe_bltn (v := .ty "int") (by rfl) T.n_int (by decide +kernel) rfl) pa_nil))) (pe_and (pe_cmpR op_eq (pe_callB call_isi (by rfl) T.n_isinstance (by decide +kernel) (pa_cons (pv 0) (pa_cons (pe_bltn (v := .ty "bool") (by rfl) T.n_bool (by decide +kernel) rfl) pa_nil))) (pe_callB call_isi (by rfl) T.n_isinstance (by decide +kernel) (pa_cons (pv 1) (pa_cons (pe_bltn (v := .ty "bool") (by rfl) T.n_bool (by decide +kernel) rfl) pa_nil))) (nomark _)) (pe_one (pe_cmpR op_eq (pv 0) (pv 1) (nomark _))))))))))), ?_⟩
      obtain ⟨rfl, sc⟩ := h
      rcases sc with rfl | ⟨bb, rfl⟩ | ⟨ii, rfl⟩ | ⟨zz, rfl⟩
      · refine ⟨.non, rfl, _, _, _, _, false, rfl, .ty "dict", .base .non, kit_ty (by decide +kernel), false, rfl, iteF ?_⟩
        refine ⟨.non, rfl, _, _, _, _, false, rfl, .ty "list", .base .non, kit_ty (by decide +kernel), false, rfl, iteF ⟨.non, rfl, _, _, _, _, false, rfl, .ty "tuple", .base .non, kit_ty (by decide +kernel), false, rfl, iteF ?_⟩⟩
        refine ⟨.non, rfl, rfl, true, blT rfl, iteT ⟨.non, rfl, rfl, ?_⟩⟩
        rw [decide_eq_true rfl]
        exact q _ (Same.refl _)
      · refine ⟨.bl bb, rfl, _, _, _, _, false, rfl, .ty "dict", .base (.bl bb), kit_ty (by decide +kernel), false, rfl, iteF ?_⟩
        refine ⟨.bl bb, rfl, _, _, _, _, false, rfl, .ty "list", .base (.bl bb), kit_ty (by decide +kernel), false, rfl, iteF ⟨.bl bb, rfl, _, _, _, _, false, rfl, .ty "tuple", .base (.bl bb), kit_ty (by decide +kernel), false, rfl, iteF ?_⟩⟩
        refine ⟨.bl bb, rfl, rfl, false, blF (by intro z; cases z), iteF ?_⟩
        refine ⟨.bl bb, rfl, _, _, _, _, false, rfl, .ty "str", .base (.bl bb), kit_ty (by decide +kernel), false, rfl, iteF ⟨.bl bb, rfl, _, _, _, _, true, rfl, .ty "int", .base (.bl bb), kit_ty (by decide +kernel), true, rfl, iteT ⟨.bl bb, rfl, _, _, _, _, true, rfl, .ty "bool", .base (.bl bb), kit_ty (by decide +kernel), .bl bb, rfl, _, _, _, _, true, rfl, .ty "bool", .base (.bl bb), kit_ty (by decide +kernel), rfl, true, blT rfl, iteT ⟨.bl bb, rfl, .bl bb, rfl, rfl, ?_⟩⟩⟩⟩
        rw [decide_eq_true rfl]
        exact q _ (Same.refl _)
      · refine ⟨.int ii, rfl, _, _, _, _, false, rfl, .ty "dict", .base (.int ii), kit_ty (by decide +kernel), false, rfl, iteF ?_⟩
        refine ⟨.int ii, rfl, _, _, _, _, false, rfl, .ty "list", .base (.int ii), kit_ty (by decide +kernel), false, rfl, iteF ⟨.int ii, rfl, _, _, _, _, false, rfl, .ty "tuple", .base (.int ii), kit_ty (by decide +kernel), false, rfl, iteF ?_⟩⟩
        refine ⟨.int ii, rfl, rfl, false, blF (by intro z; cases z), iteF ?_⟩
        refine ⟨.int ii, rfl, _, _, _, _, false, rfl, .ty "str", .base (.int ii), kit_ty (by decide +kernel), false, rfl, iteF ⟨.int ii, rfl, _, _, _, _, true, rfl, .ty "int", .base (.int ii), kit_ty (by decide +kernel), true, rfl, iteT ⟨.int ii, rfl, _, _, _, _, false, rfl, .ty "bool", .base (.int ii), kit_ty (by decide +kernel), .int ii, rfl, _, _, _, _, false, rfl, .ty "bool", .base (.int ii), kit_ty (by decide +kernel), rfl, true, blT rfl, iteT ⟨.int ii, rfl, .int ii, rfl, rfl, ?_⟩⟩⟩⟩
        rw [decide_eq_true rfl]
        exact q _ (Same.refl _)
      · refine ⟨.str zz, rfl, _, _, _, _, false, rfl, .ty "dict", .base (.str zz), kit_ty (by decide +kernel), false, rfl, iteF ?_⟩
        refine ⟨.str zz, rfl, _, _, _, _, false, rfl, .ty "list", .base (.str zz), kit_ty (by decide +kernel), false, rfl, iteF ⟨.str zz, rfl, _, _, _, _, false, rfl, .ty "tuple", .base (.str zz), kit_ty (by decide +kernel), false, rfl, iteF ?_⟩⟩
        refine ⟨.str zz, rfl, rfl, false, blF (by intro z; cases z), iteF ?_⟩
        refine ⟨.str zz, rfl, _, _, _, _, true, rfl, .ty "str", .base (.str zz), kit_ty (by decide +kernel), true, rfl, iteT ⟨.str zz, rfl, _, _, _, _, true, rfl, .ty "str", .base (.str zz), kit_ty (by decide +kernel), true, rfl, iteT ⟨.str zz, rfl, .str zz, rfl, rfl, ?_⟩⟩⟩
        rw [decide_eq_true rfl]
        exact q _ (Same.refl _)
  | succ n ih =>
    have G_Lsame := ih
    refine D_Lsame.F.ok sc_Lsame (fun vs H Q E h => ?_) (fun cdv A outer s H vs Q E hr h => ?_)
    · obtain ⟨x, y, L, rfl, _⟩ := h
      rfl
    · obtain ⟨x, y, L, rfl, h, q⟩ := h
      have hu := hu_of hr
      refine ⟨_, (pss_cons (ps_if (pt_val (pe_callB call_isi (by rfl) T.n_isinstance (by decide +kernel) (pa_cons (pv 1) (pa_cons (pe_bltn (v := .ty "dict") (by rfl) T.n_dict (by decide +kernel) rfl) pa_nil))))
       (pss_cons (ps_if (PW.pt (pw_or (pt_not (pt_val (pe_callB call_isi (by rfl) T.n_isinstance (by decide +kernel) (pa_cons (pv 0) (pa_cons (pe_bltn (v := .ty "dict") (by rfl) T.n_dict (by decide +kernel) rfl) pa_nil))))) (pw_or1 (pt_cmpR op_ne (pe_callB call_lenR (by rfl) T.n_len (by decide +kernel) (pa_cons (pv 0) pa_nil)) (pe_callB call_lenR (by rfl) T.n_len (by decide +kernel) (pa_cons (pv 1) pa_nil)) (nomark _)))))
         (pss_one (ps_ret pe_bl))
         pss_nil)
        (pss_cons (ps_if (pt_not (pt_val (pe_callB (cr_all rfl) (by rfl) T.n_all (by decide +kernel) (pa_cons (pe_lock (pe_lc (own := [("_law_key_here", 2)]) (g := (gName 2)) (tt := tYes) rfl sc_Lsame.nd (pi_keys (pv 1)) (blkOk_by (own := [("_law_key_here", 2)]) (N := N_Lsame) (sc := defScope s_Lsame) (by decide +kernel)) (fun _ _ _ _ _ => (pg_name (i := 2) sc_Lsame.nd rfl (.inl rfl))) (fun _ _ _ _ _ => pts_nil) (fun _ _ _ _ _ => (pe_cmp (pc_din hu (pv 2) (pv 0)) rfl)))) pa_nil))))
         (pss_one (ps_ret pe_bl))
         pss_nil)
        (pss_one (ps_ret (pe_callB (cr_all rfl) (by rfl) T.n_all (by decide +kernel) (pa_cons (pe_lock (pe_lc (own := [("_law_key_here", 2)]) (g := (gName 2)) (tt := tYes) rfl sc_Lsame.nd (pi_keys (pv 1)) (blkOk_by (own := [("_law_key_here", 2)]) (N := N_Lsame) (sc := defScope s_Lsame) (by decide +kernel)) (fun _ _ _ _ _ => (pg_name (i := 2) sc_Lsame.nd rfl (.inl rfl))) (fun _ _ _ _ _ => pts_nil) (fun _ _ _ _ _ => (pe_call G_Lsame (hr.mono (by omega)) (by rfl) D_Lsame.g D_Lsame.F.kp D_Lsame.b .nil pass0 (pa_cons (pe_dget hu (pv 0) (pv 2) (fun _ _ => rfl)) (pa_cons (pe_dget hu (pv 1) (pv 2) (fun _ _ => rfl)) pa_nil)))))) pa_nil))))))
       pss_nil)
      (pss_cons (ps_if (PW.pt (pw_or (pt_val (pe_callB call_isi (by rfl) T.n_isinstance (by decide +kernel) (pa_cons (pv 1) (pa_cons (pe_bltn (v := .ty "list") (by rfl) T.n_list (by decide +kernel) rfl) pa_nil)))) (pw_or1 (pt_val (pe_callB call_isi (by rfl) T.n_isinstance (by decide +kernel) (pa_cons (pv 1) (pa_cons (pe_bltn (v := .ty "tuple") (by rfl) T.n_tuple (by decide +kernel) rfl) pa_nil)))))))
       (pss_cons (ps_if (pt_cmpR op_ne (pe_callB call_isi (by rfl) T.n_isinstance (by decide +kernel) (pa_cons (pv 0) (pa_cons (pe_bltn (v := .ty "list") (by rfl) T.n_list (by decide +kernel) rfl) pa_nil))) (pe_callB call_isi (by rfl) T.n_isinstance (by decide +kernel) (pa_cons (pv 1) (pa_cons (pe_bltn (v := .ty "list") (by rfl) T.n_list (by decide +kernel) rfl) pa_nil))) (nomark _))
         (pss_one (ps_ret pe_bl))
         pss_nil)
        (pss_cons (ps_if (PW.pt (pw_or (pt_cmpR op_ne (pe_callB call_isi (by rfl) T.n_isinstance (by decide +kernel) (pa_cons (pv 0) (pa_cons (pe_bltn (v := .ty "tuple") (by rfl) T.n_tuple (by decide +kernel) rfl) pa_nil))) (pe_callB call_isi (by rfl) T.n_isinstance (by decide +kernel) (pa_cons (pv 1) (pa_cons (pe_bltn (v := .ty "tuple") (by rfl) T.n_tuple (by decide +kernel) rfl) pa_nil))) (nomark _)) (pw_or1 (pt_cmpR op_ne (pe_callB call_len_seq (by rfl) T.n_len (by decide +kernel) (pa_cons (pv 0) pa_nil)) (pe_callB call_len_seq (by rfl) T.n_len (by decide +kernel) (pa_cons (pv 1) pa_nil)) (nomark _)))))
         (pss_one (ps_ret pe_bl))
         pss_nil)
        (pss_one (ps_ret (pe_callB (cr_all rfl) (by rfl) T.n_all (by decide +kernel) (pa_cons (pe_lc (own := [("_law_k", 3)]) (g := (gName 3)) (tt := tYes) rfl sc_Lsame.nd (pi_range1 (by rfl) T.n_range (pa_cons (pe_callB call_len_seq (by rfl) T.n_len (by decide +kernel) (pa_cons (pv 1) pa_nil)) pa_nil)) (blkOk_by (own := [("_law_k", 3)]) (N := N_Lsame) (sc := defScope s_Lsame) (by decide +kernel)) (fun _ _ _ _ _ => (pg_name (i := 3) sc_Lsame.nd rfl (.inl rfl))) (fun _ _ _ _ _ => pts_nil) (fun _ _ _ _ _ => (pe_call G_Lsame (hr.mono (by omega)) (by rfl) D_Lsame.g D_Lsame.F.kp D_Lsame.b .nil pass0 (pa_cons (pe_ix (ix_seqK K) (pv 0) (pv 3) (fun _ _ => rfl)) (pa_cons (pe_ix (ix_seqK K) (pv 1) (pv 3) (fun _ _ => rfl)) pa_nil))))) pa_nil))))))
       pss_nil)
      (pss_cons (ps_if (pt_cmpR op_isN (pv 1) pe_non (nomark _))
       (pss_one (ps_ret (pe_cmpR op_isN (pv 0) pe_non (nomark _))))
       pss_nil)
      (pss_cons (ps_if (pt_val (pe_callB call_isi (by rfl) T.n_isinstance (by decide +kernel) (pa_cons (pv 1) (pa_cons (pe_bltn (v := .ty "str") (by rfl) T.n_str (by decide +kernel) rfl) pa_nil))))
       (pss_one (ps_ret (pe_and (pe_callB call_isi (by rfl) T.n_isinstance (by decide +kernel) (pa_cons (pv 0) (pa_cons (pe_bltn (v := .ty "str") (by rfl) T.n_str (by decide +kernel) rfl) pa_nil))) (pe_one (pe_cmpR op_eq (pv 0) (pv 1) (nomark _))))))
       pss_nil)
      (pss_one (ps_ret (pe_and (pe_callB call_isi (by rfl) T.n_isinstance (by decide +kernel) (pa_cons (pv 0) (pa_cons (pe_bltn (v := .ty "int") (by rfl) T.n_int (by decide +kernel) rfl) pa_nil))) (pe_and (pe_cmpR op_eq (pe_callB call_isi (by rfl) T.n_isinstance (by decide +kernel) (pa_cons (pv 0) (pa_cons (pe_bltn (v := .ty "bool") (by rfl) T.n_bool (by decide +kernel) rfl) pa_nil))) (pe_callB call_isi (by rfl) T.n_isinstance (by decide +kernel) (pa_cons (pv 1) (pa_cons (pe_bltn (v := .ty "bool") (by rfl) T.n_bool (by decide +kernel) rfl) pa_nil))) (nomark _)) (pe_one (pe_cmpR op_eq (pv 0) (pv 1) (nomark _))))))))))), ?_⟩
      rcases h with h | ⟨a, b, xs, ys, rfl, rfl, h, hl, h1, h2⟩ | ⟨a, b, kvs, lvs, rfl, rfl, na, nb, ha, hb, hl, h1, hnd, h2⟩
      · skip
        obtain ⟨rfl, sc⟩ := h
        rcases sc with rfl | ⟨bb, rfl⟩ | ⟨ii, rfl⟩ | ⟨zz, rfl⟩
        · refine ⟨.non, rfl, _, _, _, _, false, rfl, .ty "dict", .base .non, kit_ty (by decide +kernel), false, rfl, iteF ?_⟩
          refine ⟨.non, rfl, _, _, _, _, false, rfl, .ty "list", .base .non, kit_ty (by decide +kernel), false, rfl, iteF ⟨.non, rfl, _, _, _, _, false, rfl, .ty "tuple", .base .non, kit_ty (by decide +kernel), false, rfl, iteF ?_⟩⟩
          refine ⟨.non, rfl, rfl, true, blT rfl, iteT ⟨.non, rfl, rfl, ?_⟩⟩
          rw [decide_eq_true rfl]
          exact q _ (Same.refl _)
        · refine ⟨.bl bb, rfl, _, _, _, _, false, rfl, .ty "dict", .base (.bl bb), kit_ty (by decide +kernel), false, rfl, iteF ?_⟩
          refine ⟨.bl bb, rfl, _, _, _, _, false, rfl, .ty "list", .base (.bl bb), kit_ty (by decide +kernel), false, rfl, iteF ⟨.bl bb, rfl, _, _, _, _, false, rfl, .ty "tuple", .base (.bl bb), kit_ty (by decide +kernel), false, rfl, iteF ?_⟩⟩
          refine ⟨.bl bb, rfl, rfl, false, blF (by intro z; cases z), iteF ?_⟩
          refine ⟨.bl bb, rfl, _, _, _, _, false, rfl, .ty "str", .base (.bl bb), kit_ty (by decide +kernel), false, rfl, iteF ⟨.bl bb, rfl, _, _, _, _, true, rfl, .ty "int", .base (.bl bb), kit_ty (by decide +kernel), true, rfl, iteT ⟨.bl bb, rfl, _, _, _, _, true, rfl, .ty "bool", .base (.bl bb), kit_ty (by decide +kernel), .bl bb, rfl, _, _, _, _, true, rfl, .ty "bool", .base (.bl bb), kit_ty (by decide +kernel), rfl, true, blT rfl, iteT ⟨.bl bb, rfl, .bl bb, rfl, rfl, ?_⟩⟩⟩⟩
          rw [decide_eq_true rfl]
          exact q _ (Same.refl _)
        · refine ⟨.int ii, rfl, _, _, _, _, false, rfl, .ty "dict", .base (.int ii), kit_ty (by decide +kernel), false, rfl, iteF ?_⟩
          refine ⟨.int ii, rfl, _, _, _, _, false, rfl, .ty "list", .base (.int ii), kit_ty (by decide +kernel), false, rfl, iteF ⟨.int ii, rfl, _, _, _, _, false, rfl, .ty "tuple", .base (.int ii), kit_ty (by decide +kernel), false, rfl, iteF ?_⟩⟩
          refine ⟨.int ii, rfl, rfl, false, blF (by intro z; cases z), iteF ?_⟩
          refine ⟨.int ii, rfl, _, _, _, _, false, rfl, .ty "str", .base (.int ii), kit_ty (by decide +kernel), false, rfl, iteF ⟨.int ii, rfl, _, _, _, _, true, rfl, .ty "int", .base (.int ii), kit_ty (by decide +kernel), true, rfl, iteT ⟨.int ii, rfl, _, _, _, _, false, rfl, .ty "bool", .base (.int ii), kit_ty (by decide +kernel), .int ii, rfl, _, _, _, _, false, rfl, .ty "bool", .base (.int ii), kit_ty (by decide +kernel), rfl, true, blT rfl, iteT ⟨.int ii, rfl, .int ii, rfl, rfl, ?_⟩⟩⟩⟩
          rw [decide_eq_true rfl]
          exact q _ (Same.refl _)
        · refine ⟨.str zz, rfl, _, _, _, _, false, rfl, .ty "dict", .base (.str zz), kit_ty (by decide +kernel), false, rfl, iteF ?_⟩
          refine ⟨.str zz, rfl, _, _, _, _, false, rfl, .ty "list", .base (.str zz), kit_ty (by decide +kernel), false, rfl, iteF ⟨.str zz, rfl, _, _, _, _, false, rfl, .ty "tuple", .base (.str zz), kit_ty (by decide +kernel), false, rfl, iteF ?_⟩⟩
          refine ⟨.str zz, rfl, rfl, false, blF (by intro z; cases z), iteF ?_⟩
          refine ⟨.str zz, rfl, _, _, _, _, true, rfl, .ty "str", .base (.str zz), kit_ty (by decide +kernel), true, rfl, iteT ⟨.str zz, rfl, _, _, _, _, true, rfl, .ty "str", .base (.str zz), kit_ty (by decide +kernel), true, rfl, iteT ⟨.str zz, rfl, .str zz, rfl, rfl, ?_⟩⟩⟩
          rw [decide_eq_true rfl]
          exact q _ (Same.refl _)
      · -- lists, tuples
        rcases h with ⟨ha, hb⟩ | ⟨ha, hb⟩
        · refine ⟨.ref b, rfl, _, _, _, _, false, rfl, .ty "dict", .base (.lst hb), kit_ty (by decide +kernel), false, rfl, iteF ?_⟩
          refine ⟨.ref b, rfl, _, _, _, _, true, rfl, .ty "list", .base (.lst hb), kit_ty (by decide +kernel), true, rfl, iteT ?_⟩
          refine ⟨.ref a, rfl, _, _, _, _, true, rfl, .ty "list", .base (.lst ha), kit_ty (by decide +kernel), .ref b, rfl, _, _, _, _, true, rfl, .ty "list", .base (.lst hb), kit_ty (by decide +kernel), rfl, false, blNF rfl, iteF ?_⟩
          refine ⟨.ref a, rfl, _, _, _, _, false, rfl, .ty "tuple", .base (.lst ha), kit_ty (by decide +kernel), .ref b, rfl, _, _, _, _, false, rfl, .ty "tuple", .base (.lst hb), kit_ty (by decide +kernel), rfl, false, blNF rfl, iteF ⟨.ref a, rfl, a, xs, rfl, .inl (SqL.of ha), .ref b, rfl, b, ys, rfl, .inl (SqL.of hb), rfl, false, blNF (by rw [hl]), iteF ?_⟩⟩
          refine ⟨.ref b, rfl, b, ys, rfl, .inl (SqL.of hb), ys.length, rfl, by omega, by omega, fun Da nD => ?_⟩
          refine lc_all (walk_range (lo := 0) (n := ys.length)) (fun i x => x = .int (0 + (i : Int))) (fun i H x H' hi y => y) (fun _ _ => trivial) nD h1 (fun _ => rfl) ?_ ?_
          · rintro i x H2 Q2 hi rfl sm k
            have ex : xs[i]? = some (xs[i]'(by omega)) := List.getElem?_eq_getElem _
            have ey : ys[i]? = some ys[i] := List.getElem?_eq_getElem _
            exact ⟨.ref a, rfl, _, rfl, .inl ⟨a, xs, _, _, rfl, rfl, SqL.of (sm _ _ ha), at_of (j := i) (by omega) ex, .ref b, rfl, _, rfl, .inl ⟨b, ys, _, _, rfl, rfl, SqL.of (sm _ _ hb), at_of (j := i) (by omega) ey, _, _, L, rfl, SameL.st (Same.stl sm) (h2 i _ _ ex ey), k⟩⟩⟩
          · intro H2 sm e2
            refine ⟨Da, List.replicate ys.length true, rfl, SqL.of e2, ?_⟩
            rw [all_true]
            exact q _ sm
        · refine ⟨.ref b, rfl, _, _, _, _, false, rfl, .ty "dict", .base (.tup hb), kit_ty (by decide +kernel), false, rfl, iteF ?_⟩
          refine ⟨.ref b, rfl, _, _, _, _, false, rfl, .ty "list", .base (.tup hb), kit_ty (by decide +kernel), false, rfl, iteF ⟨.ref b, rfl, _, _, _, _, true, rfl, .ty "tuple", .base (.tup hb), kit_ty (by decide +kernel), true, rfl, ?_⟩⟩
          refine iteT ?_
          refine ⟨.ref a, rfl, _, _, _, _, false, rfl, .ty "list", .base (.tup ha), kit_ty (by decide +kernel), .ref b, rfl, _, _, _, _, false, rfl, .ty "list", .base (.tup hb), kit_ty (by decide +kernel), rfl, false, blNF rfl, iteF ?_⟩
          refine ⟨.ref a, rfl, _, _, _, _, true, rfl, .ty "tuple", .base (.tup ha), kit_ty (by decide +kernel), .ref b, rfl, _, _, _, _, true, rfl, .ty "tuple", .base (.tup hb), kit_ty (by decide +kernel), rfl, false, blNF rfl, iteF ⟨.ref a, rfl, a, xs, rfl, .inr (.inl (.inl ha)), .ref b, rfl, b, ys, rfl, .inr (.inl (.inl hb)), rfl, false, blNF (by rw [hl]), iteF ?_⟩⟩
          refine ⟨.ref b, rfl, b, ys, rfl, .inr (.inl (.inl hb)), ys.length, rfl, by omega, by omega, fun Da nD => ?_⟩
          refine lc_all (walk_range (lo := 0) (n := ys.length)) (fun i x => x = .int (0 + (i : Int))) (fun i H x H' hi y => y) (fun _ _ => trivial) nD h1 (fun _ => rfl) ?_ ?_
          · rintro i x H2 Q2 hi rfl sm k
            have ex : xs[i]? = some (xs[i]'(by omega)) := List.getElem?_eq_getElem _
            have ey : ys[i]? = some ys[i] := List.getElem?_eq_getElem _
            exact ⟨.ref a, rfl, _, rfl, .inr (.inl ⟨a, xs, _, _, rfl, rfl, .inl (.inl (sm _ _ ha)), at_of (j := i) (by omega) ex, .ref b, rfl, _, rfl, .inr (.inl ⟨b, ys, _, _, rfl, rfl, .inl (.inl (sm _ _ hb)), at_of (j := i) (by omega) ey, _, _, L, rfl, SameL.st (Same.stl sm) (h2 i _ _ ex ey), k⟩)⟩)⟩
          · intro H2 sm e2
            refine ⟨Da, List.replicate ys.length true, rfl, SqL.of e2, ?_⟩
            rw [all_true]
            exact q _ sm

      · -- dicts
        refine ⟨.ref b, rfl, _, _, _, _, true, rfl, .ty "dict", .base (.dK hb), kit_ty (by decide +kernel), true, rfl, iteT ?_⟩
        refine ⟨.ref a, rfl, _, _, _, _, true, rfl, .ty "dict", .base (.dK ha), kit_ty (by decide +kernel), true, rfl, iteF ⟨.ref a, rfl, a, kvs, rfl, .inl ha, .ref b, rfl, b, lvs, rfl, .inl hb, rfl, false, blNF (by rw [hl]), iteF ?_⟩⟩
        -- all keys
        refine ⟨b, .dK lvs, hb, trivial, fun od => ⟨.ref b, rfl, b, od, rfl, .inl ⟨lvs, upd_same, fun Da nD => ?_⟩⟩⟩
        have rd1 : ∀ {H2 : Hp} {od : Obj}, Same (upd H b (.frz od (.dK lvs))) H2 → Rd H2 a (.dK kvs) := fun sm => rd_same sm (rd_put hb ha)
        refine lc_all walk_keys (fun i x => ∃ k v, (k, v) ∈ lvs ∧ x = kV k) ?_ (fun H sm => sm _ _ upd_same) nD h1 (fun _ => rfl) ?_ ?_
        · rintro i H x H' hi ⟨rfl, k, v, e, rfl⟩
          exact ⟨rfl, k, v, List.mem_of_getElem? e, rfl⟩
        · rintro i x H2 Q2 hi ⟨k, v, m, rfl⟩ sm kk
          refine ⟨kV k, rfl, .ref a, rfl, a, _, rfl, .inl ⟨kvs, k, rd1 sm, rfl, rfl⟩, ?_⟩
          obtain ⟨u, eu, _⟩ := h2 k v m
          rw [eu]
          exact kk _ (Same.refl _)
        · intro H2 sm e2
          refine ⟨sm _ _ upd_same, Da, List.replicate lvs.length true, rfl, SqL.of ?_, true, by rw [all_true], iteF ?_⟩
          · rw [upd_ne (show Da ≠ b from fun z => by rw [z, upd_same] at nD; cases nD)]
            exact e2
          have s3 : Same H (upd H2 b (.dK lvs)) := same_unlock hb sm
          generalize upd H2 b (.dK lvs) = H3 at s3
          have ha3 := s3 _ _ ha
          have hb3 := s3 _ _ hb
          clear e2 sm nD rd1
          refine ⟨b, .dK lvs, hb3, trivial, fun od => ⟨.ref b, rfl, b, od, rfl, .inl ⟨lvs, upd_same, fun Db nE => ?_⟩⟩⟩
          have rd1 : ∀ {H2 : Hp} {od : Obj}, Same (upd H3 b (.frz od (.dK lvs))) H2 → Rd H2 a (.dK kvs) := fun sm => rd_same sm (rd_put hb3 ha3)
          refine lc_all walk_keys (fun i x => ∃ k v, (k, v) ∈ lvs ∧ x = kV k) ?_ (fun H sm => sm _ _ upd_same) nE h1 (fun _ => rfl) ?_ ?_
          · rintro i H x H' hi ⟨rfl, k, v, e, rfl⟩
            exact ⟨rfl, k, v, List.mem_of_getElem? e, rfl⟩
          · rintro i x H4 Q2 hi ⟨k, v, m, rfl⟩ sm kk
            obtain ⟨u, eu, hu2⟩ := h2 k v m
            refine ⟨.ref a, rfl, kV k, rfl, a, u, rfl, .inl ⟨kvs, k, rd1 sm, rfl, eu.symm⟩, .ref b, rfl, kV k, rfl, b, v, rfl, .inl ⟨lvs, k, .inr ⟨od, sm _ _ upd_same⟩, rfl, (valV_nd hnd m).symm⟩, u, v, b :: L, rfl, ?_, kk⟩
            exact SameL.st (((Same.stl s3).trans (StL.lock hb3)).trans (Same.stl sm)) hu2
          · intro H4 sm e4
            refine ⟨sm _ _ upd_same, Db, List.replicate lvs.length true, rfl, SqL.of ?_, ?_⟩
            · rw [upd_ne (show Db ≠ b from fun z => by rw [z, upd_same] at nE; cases nE)]
              exact e4
            · rw [all_true]
              exact q _ (s3.trans (same_unlock hb3 sm))
theorem ok_Lsame {f : Addr} {fd : FuncData} (D_Lsame : Df K mg "_law_same" s_Lsame f fd ["_law_one", "_law_other"]) (T : Nms mg) (n : Nat) : FnOk P w K mg base CX0 (n + 1) f fd ["_law_one", "_law_other"] (spLsame n) :=
  (ok_LsameL D_Lsame T n).imp fun vs H Q E h => by
    obtain ⟨x, y, e, h, q⟩ := h
    exact ⟨x, y, [], e, h, q⟩
end
end NW
namespace NW
open PySem PySem.Spec PyProof.Rows L2
open TL (tl)
open StX (pa_star)
abbrev s_Lbases : Stmt := topS 80
abbrev N_Lbases : List Str := ["_law_schema_here"]
theorem sc_Lbases : FnScope N_Lbases ["_law_schema_here"] (defScope s_Lbases) := ⟨rfl, rfl, rfl, by decide +kernel, rfl, by decide +kernel, by decide +kernel⟩
abbrev s_Lmade : Stmt := topS 81
abbrev N_Lmade : List Str := ["_law_schema_here"]
theorem sc_Lmade : FnScope N_Lmade ["_law_schema_here"] (defScope s_Lmade) := ⟨rfl, rfl, rfl, by decide +kernel, rfl, by decide +kernel, by decide +kernel⟩
/-! ### sorted texts are one -/
theorem lt_tot : ∀ {a b : List Nat}, ltCps a b = false → ltCps b a = false → a = b
  | [], [], _, _ => rfl
  | [], _ :: _, h, _ => by simp [ltCps] at h
  | _ :: _, [], _, h => by simp [ltCps] at h
  | x :: r, y :: t, h1, h2 => by
    simp only [ltCps, Bool.or_eq_false_iff, decide_eq_false_iff_not, Bool.and_eq_false_iff, beq_eq_false_iff_ne] at h1 h2
    have e : x = y := by omega
    subst e
    have h3 : ltCps r t = false := by
      rcases h1.2 with h | h
      · exact absurd rfl h
      · exact h
    have h4 : ltCps t r = false := by
      rcases h2.2 with h | h
      · exact absurd rfl h
      · exact h
    rw [lt_tot h3 h4]
theorem lt_trans' : ∀ {a b c : List Nat}, ltCps b a = false → ltCps c b = false → ltCps c a = false
  | [], _, [], _, _ => rfl
  | _ :: _, _, [], h1, h2 => by
    rename_i x r b
    cases b with
    | nil => simp [ltCps] at h1
    | cons y t => simp [ltCps] at h2
  | [], _, _ :: _, _, _ => rfl
  | x :: r, [], z :: u, h1, _ => by simp [ltCps] at h1
  | x :: r, y :: t, z :: u, h1, h2 => by
    simp only [ltCps, Bool.or_eq_false_iff, decide_eq_false_iff_not, Bool.and_eq_false_iff, beq_eq_false_iff_ne] at h1 h2 ⊢
    refine ⟨by omega, ?_⟩
    by_cases e : z = x
    · right
      have e1 : x = y := by omega
      have e2 : y = z := by omega
      subst e1
      rcases h1.2 with h | h
      · exact absurd rfl h
      · rcases h2.2 with h' | h'
        · exact absurd e2.symm h'
        · exact lt_trans' h h'
    · exact .inl e
theorem risingS_pw : ∀ {l : List Str} {p : Str}, risingS p l = true → (p :: l).Pairwise fun a b => ltCps (tl b) (tl a) = false
  | [], p, _ => by simp
  | x :: r, p, h => by
    simp only [risingS, Bool.and_eq_true, Bool.not_eq_true'] at h
    have ih := risingS_pw h.2
    refine List.pairwise_cons.mpr ⟨fun y hy => ?_, ih⟩
    rcases List.mem_cons.mp hy with rfl | hy
    · exact h.1
    · exact lt_trans' h.1 ((List.pairwise_cons.mp ih).1 y hy)
theorem sortedS_pw : ∀ {l : List Str}, sortedS l = true → l.Pairwise fun a b => ltCps (tl b) (tl a) = false
  | [], _ => by simp
  | _ :: _, h => risingS_pw h
theorem tl_inj {a b : Str} (h : tl a = tl b) : a = b := by
  cases a
  cases b
  exact congrArg Str.mk (Array.toList_inj.mp h)
theorem sorted_one {l m : List Str} (hl : sortedS l = true) (hm : sortedS m = true) (p : l.Perm m) : l = m :=
  List.Perm.eq_of_pairwise (le := fun a b => ltCps (tl b) (tl a) = false) (fun a b _ _ h1 h2 => tl_inj (lt_tot h2 h1)) (sortedS_pw hl) (sortedS_pw hm) p
/-- the members of a base: sorted, in one of three ways -/
def MemL (ks : List KRow) (us : List URow) (z : Str) (l : List Str) : Prop := sortedS l = true ∧ l.length ≤ 6 ∧
  ((z ∈ ks.map (·.nm) ∧ l = [z]) ∨ (z ∉ ks.map (·.nm) ∧ ∃ u ∈ us, u.nm = z ∧ l.Perm u.ms) ∨ (z ∉ ks.map (·.nm) ∧ z ∉ us.map (·.nm) ∧ l.Perm ((ks.filter fun k => decide (z ∈ k.fcs)).map (·.nm))))
theorem MemL.one {ks : List KRow} {us : List URow} {z : Str} {l m : List Str} (nd : (us.map (·.nm)).Nodup) (h1 : MemL ks us z l) (h2 : MemL ks us z m) : l = m := by
  obtain ⟨a1, _, a⟩ := h1
  obtain ⟨b1, _, b⟩ := h2
  rcases a with ⟨x1, rfl⟩ | ⟨x1, u, hu, eu, p⟩ | ⟨x1, x2, p⟩
  · rcases b with ⟨_, rfl⟩ | ⟨y, _⟩ | ⟨y, _⟩
    · rfl
    · exact absurd x1 y
    · exact absurd x1 y
  · rcases b with ⟨y, _⟩ | ⟨_, v, hv, ev, p'⟩ | ⟨_, y, _⟩
    · exact absurd y x1
    · have : u = v := by
        obtain ⟨i, hi, ei⟩ := List.getElem_of_mem hu
        obtain ⟨j, hj, ej⟩ := List.getElem_of_mem hv
        have hh : (us.map (·.nm))[i]'(by rw [List.length_map]; exact hi) = (us.map (·.nm))[j]'(by rw [List.length_map]; exact hj) := by
          rw [List.getElem_map, List.getElem_map, ei, ej, eu, ev]
        have e := (List.getElem_inj nd).mp hh
        subst e
        rw [← ei, ← ej]
      subst this
      exact sorted_one a1 b1 (p.trans p'.symm)
    · exact absurd (List.mem_map.mpr ⟨u, hu, eu⟩) y
  · rcases b with ⟨y, _⟩ | ⟨_, v, hv, ev, _⟩ | ⟨_, _, p'⟩
    · exact absurd y x1
    · exact absurd (List.mem_map.mpr ⟨v, hv, ev⟩) x2
    · exact sorted_one a1 b1 (p.trans p'.symm)
section
variable {P : Program} {w : World} {K : PySem.W.Frag} {mg : Str → Option Value} {base : Heap}

def SchT (H : Hp) (q kt ft ut : Addr) (ks : List KRow) (fs : List FRow) (us : List URow) (root : Str) : Prop := H q = some (.tup [.ref kt, .ref ft, .ref ut, .str root]) ∧ SchAt H kt ft ut ks fs us ∧ SchOk ks fs us root
def spLbases : Sp := fun vs H Q _ => ∃ (q kt ft ut : Addr) (ks : List KRow) (fs : List FRow) (us : List URow) (root : Str), vs = [.ref q] ∧ SchT H q kt ft ut ks fs us root ∧
  ∀ (l : List Str) p H', l.Perm (ks.map (·.nm) ++ fs.map (·.nm) ++ us.map (·.nm)) → Same H H' → H p = none → H' p = some (.lst (l.map V.str)) → Q (.ref p) H'
theorem ok_Lbases {f : Addr} {fd : FuncData} (D : Df K mg "_law_bases" s_Lbases f fd ["_law_schema_here"]) (T : Nms mg) : FnOk P w K mg base CX0 1 f fd ["_law_schema_here"] spLbases := by
  refine D.F.ok sc_Lbases (fun vs H Q E h => ?_) (fun cdv A outer s H vs Q E hr h => ?_)
  · obtain ⟨q, kt, ft, ut, ks, fs, us, root, rfl, _⟩ := h
    rfl
  · obtain ⟨q, kt, ft, ut, ks, fs, us, root, rfl, ⟨hq, S, ok⟩, k⟩ := h
    refine ⟨_, (pss_one (ps_ret (pe_callB cr_sortedS (by rfl) T.n_sorted (by decide +kernel) (pa_cons (pe_op op_cat (pe_op op_cat (pe_callTy (call_listD rfl) (by rfl) T.n_list (by decide +kernel) (pa_cons (pe_ix (ix_tupK K) (pv 0) pe_int (fun _ _ => rfl)) pa_nil)) (pe_callTy (call_listD rfl) (by rfl) T.n_list (by decide +kernel) (pa_cons (pe_ix (ix_tupK K) (pv 0) pe_int (fun _ _ => rfl)) pa_nil))) (pe_callTy (call_listD rfl) (by rfl) T.n_list (by decide +kernel) (pa_cons (pe_ix (ix_tupK K) (pv 0) pe_int (fun _ _ => rfl)) pa_nil))) pa_nil)))), ?_⟩
    have k1 := ok.k1
    have f1 := ok.f1
    have u1 := ok.u1
    have hS : ∀ n : Nat, n ≤ 1000 → n ≤ sizeLine := fun n h => Nat.le_trans h (by decide)
    refine ⟨.ref q, rfl, q, _, 0, _, rfl, rfl, .inl (.inl hq), atI_nat (j := 0) rfl, kt, _, rfl, .inl S.kd, fun p1 np1 => ?_⟩
    have s1 := same_new (o := .lst (dkeys (kkv ks))) np1
    refine ⟨.ref q, rfl, q, _, 1, _, rfl, rfl, .inl (.inl (s1 _ _ hq)), atI_nat (j := 1) rfl, ft, _, rfl, .inl (s1 _ _ S.fd), fun p2 np2 => ?_⟩
    have s2 := same_new (o := .lst (dkeys (fkvs fs))) np2
    refine ⟨p1, p2, _, _, rfl, rfl, s2 _ _ upd_same, upd_same, hS _ ?_, fun p3 np3 => ?_⟩
    · show (dkeys (kkv ks)).length + (dkeys (fkvs fs)).length ≤ 1000
      rw [dkeys_len, dkeys_len, show (kkv ks).length = ks.length from List.length_map .., show (fkvs fs).length = fs.length from List.length_map ..]
      omega
    have s3 := same_new (o := .lst (dkeys (kkv ks) ++ dkeys (fkvs fs))) np3
    have s13 := (s1.trans s2).trans s3
    refine ⟨.ref q, rfl, q, _, 2, _, rfl, rfl, .inl (.inl (s13 _ _ hq)), atI_nat (j := 2) rfl, ut, _, rfl, .inl (s13 _ _ S.ud), fun p4 np4 => ?_⟩
    have s4 := same_new (o := .lst (dkeys (ukv us))) np4
    refine ⟨p3, p4, _, _, rfl, rfl, s4 _ _ upd_same, upd_same, hS _ ?_, fun p5 np5 => ?_⟩
    · show (dkeys (kkv ks) ++ dkeys (fkvs fs)).length + (dkeys (ukv us)).length ≤ 1000
      rw [List.length_append, dkeys_len, dkeys_len, dkeys_len, show (kkv ks).length = ks.length from List.length_map .., show (fkvs fs).length = fs.length from List.length_map .., show (ukv us).length = us.length from List.length_map ..]
      omega
    have s5 := same_new (o := .lst (dkeys (kkv ks) ++ dkeys (fkvs fs) ++ dkeys (ukv us))) np5
    have el : dkeys (kkv ks) ++ dkeys (fkvs fs) ++ dkeys (ukv us) = (ks.map (·.nm) ++ fs.map (·.nm) ++ us.map (·.nm)).map V.str := by
      rw [dkeys_k, dkeys_f, dkeys_u, List.map_append, List.map_append]
    refine ⟨p5, ks.map (·.nm) ++ fs.map (·.nm) ++ us.map (·.nm), rfl, SqL.of ?_, ?_, fun ys p pm so np => k ys p _ pm (((s13.trans s4).trans s5).trans (same_new np)) (((s13.trans s4).trans s5).free np) upd_same⟩
    · rw [← el]
      exact upd_same
    · rw [List.length_append, List.length_append, List.length_map, List.length_map, List.length_map]
      omega
def spLmade (C : Addr) : Sp := fun vs H Q _ => ∃ (q kt ft ut : Addr) (ks : List KRow) (fs : List FRow) (us : List URow) (root : Str), vs = [.ref q] ∧ SchT H q kt ft ut ks fs us root ∧
  ∀ x H', BuiltAt C H' x ks fs us root → Same H H' → H x = none → Q (.ref x) H'
theorem ok_Lmade {f fI C : Addr} {fd fdI : FuncData} (D : Df K mg "_law_made" s_Lmade f fd ["_law_schema_here"]) (T : Nms mg) (MS : Mk K C fI) (gS : mg "Schema" = some (.ref C)) (bI : Binds K fdI ["self", "kinds", "faces", "unions", "root"] [])
    (G_init : FnOk P w K mg base CX0 9 fI fdI ["self", "kinds", "faces", "unions", "root"] (spInit C)) : FnOk P w K mg base CX0 11 f fd ["_law_schema_here"] (spLmade C) := by
  refine D.F.ok sc_Lmade (fun vs H Q E h => ?_) (fun cdv A outer s H vs Q E hr h => ?_)
  · obtain ⟨q, kt, ft, ut, ks, fs, us, root, rfl, _⟩ := h
    rfl
  · obtain ⟨q, kt, ft, ut, ks, fs, us, root, rfl, ⟨hq, S, ok⟩, k⟩ := h
    refine ⟨_, (pss_one (ps_ret (pe_make MS G_init (hr.mono (by decide)) (by rfl) gS bI .nil pass0 (pa_cons (pe_callTy call_dictD (by rfl) T.n_dict (by decide +kernel) (pa_cons (pe_ix (ix_tupK K) (pv 0) pe_int (fun _ _ => rfl)) pa_nil)) (pa_cons (pe_callTy call_dictD (by rfl) T.n_dict (by decide +kernel) (pa_cons (pe_ix (ix_tupK K) (pv 0) pe_int (fun _ _ => rfl)) pa_nil)) (pa_cons (pe_callTy call_dictD (by rfl) T.n_dict (by decide +kernel) (pa_cons (pe_ix (ix_tupK K) (pv 0) pe_int (fun _ _ => rfl)) pa_nil)) (pa_cons (pe_ix (ix_tupK K) (pv 0) pe_int (fun _ _ => rfl)) pa_nil))))))), ?_⟩
    refine ⟨.ref q, rfl, q, _, 0, _, rfl, rfl, .inl (.inl hq), atI_nat (j := 0) rfl, kt, _, rfl, .inl S.kd, fun p1 np1 => ?_⟩
    have s1 := same_new (o := .dK (kkv ks)) np1
    refine ⟨.ref q, rfl, q, _, 1, _, rfl, rfl, .inl (.inl (s1 _ _ hq)), atI_nat (j := 1) rfl, ft, _, rfl, .inl (s1 _ _ S.fd), fun p2 np2 => ?_⟩
    have s2 := same_new (o := .dK (fkvs fs)) np2
    have s12 := s1.trans s2
    refine ⟨.ref q, rfl, q, _, 2, _, rfl, rfl, .inl (.inl (s12 _ _ hq)), atI_nat (j := 2) rfl, ut, _, rfl, .inl (s12 _ _ S.ud), fun p3 np3 => ?_⟩
    have s3 := same_new (o := .dK (ukv us)) np3
    have s13 := s12.trans s3
    have e1 := (s2.trans s3) _ _ (upd_same (H := H) (a := p1) (o := .dK (kkv ks)))
    have e2 := s3 _ _ (upd_same (H := upd H p1 (.dK (kkv ks))) (a := p2) (o := .dK (fkvs fs)))
    have e3 := upd_same (H := upd (upd H p1 (.dK (kkv ks))) p2 (.dK (fkvs fs))) (a := p3) (o := .dK (ukv us))
    refine ⟨.ref q, rfl, q, _, 3, _, rfl, rfl, .inl (.inl (s13 _ _ hq)), atI_nat (j := 3) rfl, ?_⟩
    intro x dx nx ndx nex
    have S3 := S.same s13
    have s4 : Same H (upd (upd (upd (upd (upd H p1 (.dK (kkv ks))) p2 (.dK (fkvs fs))) p3 (.dK (ukv us))) dx (.own x)) x (.ins C dx [])) := fun b o e => by
      have e' := s13 _ _ e
      rw [upd_ne (ne_of_none e' nx), upd_ne (ne_of_none e' ndx)]
      exact e'
    have s34 : Same (upd (upd (upd H p1 (.dK (kkv ks))) p2 (.dK (fkvs fs))) p3 (.dK (ukv us))) (upd (upd (upd (upd (upd H p1 (.dK (kkv ks))) p2 (.dK (fkvs fs))) p3 (.dK (ukv us))) dx (.own x)) x (.ins C dx [])) := fun b o e => by
      rw [upd_ne (ne_of_none e nx), upd_ne (ne_of_none e ndx)]
      exact e
    refine ⟨x, dx, p1, p2, p3, ks, fs, us, root, rfl, upd_same, ⟨s34 _ _ e1, s34 _ _ e2, s34 _ _ e3, fun k m => (S.ka k m).same s4, fun f m => (S.fa f m).same s4, fun u m => s4 _ _ (S.ua u m)⟩, ok, fun H' g bt => ⟨rfl, k x H' bt (fun b o e => ?_) (s13.free nx)⟩⟩
    exact g _ _ (ne_of_none (s13 _ _ e) nx) (s4 _ _ e)
end
end NW
namespace NW
open PySem PySem.Spec PyProof.Rows L2
/-! ### a method that may raise -/
section
variable {X : Cx} {CX : CXT} {k : Nat} {C f : Addr} {m : Str} {fd : FuncData} {ps : List Str} {sp : Sp} {E : L2.St → XK} {o e : Expr} {es : List Expr} {ta : TE} {t : TA} {apos pos : Pos} {pl : Sem Bool}
def tMethX (C : Addr) (m : Str) (sp : Sp) (E : L2.St → XK) (ta : TE) (t : TA) : TE := fun σ H Q => ta σ H fun x H1 => ∃ a dx fs, x = .ref a ∧ H1 a = some (.ins C dx fs) ∧ fs.lookup m = none ∧ t σ H1 fun vs H2 => sp (.ref a :: vs) H2 Q (E σ)
theorem pe_methX (he : PE X o ta) (c : Cls X.K C) (hm : Meth X.K C m f) (F : FnOk X.prog X.w X.K X.mg X.base CX k f fd ps sp) (hr : Room k X.A) (hb : Binds X.K fd ps []) (hx : ∀ σ, PassesAt CX X σ (E σ)) (ha : PA X (e :: es) t)
    (hst : starEach (e :: es) X.env = (false, eval e X.env) :: starEach es X.env := by rfl) (hpl : (backTo pos (starEach es X.env)).any (·.1) = false := by rfl)
    (ht : eval (.Call (.Attribute o m apos) (e :: es) [] pos) X.env = (do
      let held ← eval o X.env
      standAt apos.atName
      let (f, first) ← holding [held] (getMethod held m pl)
      callWith pos f first (backTo pos (starEach (e :: es) X.env)) (backToKw pos (keywordEach [] X.env))) := by rfl) :
    PE X (.Call (.Attribute o m apos) (e :: es) [] pos) (tMethX C m sp E ta t) := by
  refine ⟨fun pins s σ H Q I h => ?_⟩
  refine PySem.W.methodCall_KW (pl := pl) (thn (he.run pins s σ H _ I h) fun u s1 ⟨x, H1, I1, rx, a, dx, fs, ex, ea, l, q⟩ => ?_) ht
  subst ex
  cases rx
  refine getmeth_ok I1 ea c hm l ?_
  refine PySem.W.callWith_K (first := [.ref a]) (h₀ := X.base) I.ok.mod.kin hm.kp (thn (ha.run pos pins s1 σ H1 _ I1 q) fun us s2 ⟨vs, H2, I2, r, q2⟩ => ⟨I2.kIn, ?_⟩) hst hpl
  exact run_fnS (us := .ref a :: us) (vs := .ref a :: vs) F hr hb (hx σ) I2 (.cons rfl r) q2
end
/-- nothing is let out where nothing is promised of it -/
theorem passX0 {P : Program} {w : World} {X : Cx} : Passes (L2.CX P w) X E0 := fun _ _ _ _ _ _ _ h => by
  obtain ⟨_, _, _, _, _, _, _, _, _, _, _, _, z⟩ := h
  exact z.elim
/-! ### isinstance of a caught error that has fields -/
def rIsX (K : PySem.W.Frag) (C a : Addr) (cls : Value) (d : Option Addr) : List V → Hp → VK → Prop := fun xs H Q => ∃ (c : V) (cv : Value) (b : Bool) (dd : Addr) (fs : List (Str × V)), xs = [.ref a, c] ∧ cls = .ref C ∧ d = some dd ∧ H dd = some (.xd fs) ∧ (∀ u, RelV c u → u = cv) ∧
  PySem.W.kitOne K (.ref C) cv = some b ∧ Q (.bl b) H
theorem call_isX {X : Cx} {a C : Addr} {oe : Obj} {cls : Value} {d : Option Addr} {pn : List (Addr × Obj)} (T : ExcC X.K C) (hz : Zc cls d oe) (hf : ∃ vs, oe.data = .fields vs) : CallR (X.suite a ((a, oe) :: pn)) (.builtin "isinstance") (rIsX X.K C a cls d) := by
  intro pins s σ H xs us Q I r h
  obtain ⟨c, cv, b, dd, fs, rfl, rfl, rfl, hd, hcv, e, q⟩ := h
  cases r with
  | cons rx rr =>
    cases rr with
    | cons rt rr =>
      cases rr
      cases rx
      have ec := hcv _ rt
      subst ec
      obtain ⟨hget, _⟩ := I.pin (a, oe) (List.mem_append.mpr (.inl List.mem_cons_self))
      obtain ⟨vs, hv⟩ := hf
      have hx : ObjOk X.prog X.w H s.heap dd (.xd fs) := I.hok dd _ hd
      obtain ⟨mA, hns, hr⟩ := hx
      obtain ⟨od, ho, hl⟩ := lookIn_ns hns
      have J : PySem.W.InstAt s.heap a oe C (some od) := ⟨hget, hz.1, by unfold PySem.W.notCls; rw [hv] <;> rfl, by rw [hz.2]; exact ho⟩
      obtain ⟨cd, hcl, _⟩ := PySem.W.any_some T.hd
      exact PySem.W.kia_one (PySem.W.kitx_exc (by rw [hcl]; rfl) T.hg T.hk T.hs T.ha T.hn T.ht T.hm) I.kIn J e (fun z => nomatch z) fun tk => ⟨.bl b, H, I.kept (t' := tk) fun _ _ z => z, rfl, q⟩
end NW
namespace NW
open PySem PySem.Spec PyProof.Rows L2
section
variable {X : Cx} {CY : CXT} {cls : Str} {C fI : Addr} {n : Nat} {dat : FuncData} {pars : List Str} {prom : Sp} {a0 : Expr} {as : List Expr} {tas : TA} {np cp : Pos}
/-- C(e, ..) made for a raise, where no exception is handled; what is made has no context -/
theorem pmkN (T : OexC X.K C) (hI : PySem.W.findIn X.K (.ref C) "__init__" = some (some (.ref fI))) (hT : PySem.W.typeIn X.K (.ref fI) = some (.type "function")) (G : FnOk X.prog X.w X.K X.mg X.base CY n fI dat pars prom)
    (room : Room (n + 1) X.A) (bi : Binds X.K dat pars []) (ps0 : Passes CY X (fun _ _ _ => False)) (gl : L2.Gl X cls) (mgC : X.mg cls = some (.ref C)) (pas : PA X (a0 :: as) tas) (nd : (cls == ("__debug__" : Str)) = false := by decide)
    (st : starEach (a0 :: as) X.env = (false, eval a0 X.env) :: starEach as X.env := by rfl) (pl : (backTo cp (starEach as X.env)).any (·.1) = false := by rfl) : L2N.PMk X (.Call (.Name cls np) (a0 :: as) [] cp) (tMkO C prom [] tas) := by
  intro pins s σ H Q I reading
  obtain ⟨_, _, _, _, bm, _, _, _, _, _, _, _, _, _, _, hC, inB⟩ := T.cls
  refine wpAny_Call_Name_kw (ld_glob I gl mgC (PySem.W.callWith_K (h₀ := X.base) I.ok.mod.kin T.kC (thn (pas.run cp pins s σ H _ I reading) fun us s1 ⟨vs, H1, J1, rs, few, made⟩ => ⟨J1.kIn, ?_⟩) st pl) nd)
  show wpAny _ _ (call (.ref C) us) _ _ _
  obtain ⟨h1, gs, drw, tks, sys⟩ := s1
  -- where the new exception stands
  generalize hat : h1.objs.size + 1 = new at *
  have ge1 : h1.objs.size ≤ new := by omega
  have promised := made new (J1.hok.fresh ge1)
  rw [List.append_nil] at promised
  generalize hG2 : (h1.push (PySem.W.kdv_tup us)).push (PySem.HandSPX.excO C h1.objs.size) = h2 at *
  have kept : ∀ b o, h1.get? b = some o → h2.get? b = some o := fun b o e => by rw [← hG2]; exact Heap.get?_push_of_some _ (Heap.get?_push_of_some _ e)
  have there : h2.get? new = some (PySem.HandSPX.excO C h1.objs.size) := by
    rw [← hG2, ← hat]
    heap_get
  have J2 : Inv X pins σ (upd H1 new (exo new C none)) ⟨h2, gs, drw, tks, sys⟩ := J1.laid (t' := tks) kept ge1 (exo_ok there)
  have rs2 : Vals (V.ref new :: vs) (Value.ref new :: us) := .cons rfl rs
  have len2 : (Value.ref new :: us).length = pars.length := by rw [← rs2.length]; exact G.len _ _ _ _ promised
  have bnd := bi _ (Value.ref new :: us) J2.kIn (by rw [List.append_nil]; exact len2)
  rw [List.append_nil] at bnd
  have lus : us.length ≤ sizeLine := by rw [← rs.length, sizeLine_eq]; omega
  refine wpAny_call (PySem.HandSPX.call_own F.excBase_ValueError (fun Y => PySem.HandSPX.refsVE_contains Y bm inB) (J1.kIn _ _ hC) (PySem.W.looks_findIn J1.kIn hI) (fun self => PySem.W.bind_fn J1.kIn self hT) lus ?_)
  rw [hG2, hat]
  refine codeAny_mono (G.run _ X.stack _ _ ⟨Value.ref new :: us, []⟩ _ _ _ (fun _ _ _ => False) (room.make C us []) (J2.env0.make C us []) bnd rs2 promised) fun res s' done => ?_
  cases res with
  | error er => exact ps0 pins σ _ _ er s' J2 done
  | ok fl =>
    cases fl with
    | ret u =>
      obtain ⟨v, H2, os2, bare2, un2, hok2, rv, ev, d, fs, ea, ed, hd1, q2⟩ := done
      subst ev
      obtain ⟨h3, gs3, drw3, tks3, sys3⟩ := s'
      obtain ⟨t0, G3, J, kG, ge, hoe, na⟩ := mk_end0 (d2 := drw3) (t2 := tks3) J1 ge1 kept un2 hok2 os2 bare2 ea ed hd1
      exact ⟨rv, new, _, _, ⟨G3, gs3, drw3, tks3, sys3⟩, _, .ref C, some d, rfl, J, kG, ge, hoe, ⟨rfl, rfl, fun ws e => by cases e; rfl⟩, rfl, rfl, na, rfl, bare2, raises_own T.exC T.tyC, q2⟩
    | next => exact done.elim
    | brk => exact done.elim
    | cont => exact done.elim
end
section
variable {P : Program} {w : World} {K : PySem.W.Frag} {mg : Str → Option Value} {base : Heap} {CY : CXT} {nm qn : Str} {d0 : Stmt} {fa : Addr} {dat : FuncData} {NN pars : List Str} {n : Nat} {prom : Sp}
/-- a def of the text, whatever is said of what it lets out -/
theorem okC (G : Fun K nm qn d0 fa dat) (S : FnScope NN pars (defScope d0)) (ln : ∀ vs H Q E, prom vs H Q E → vs.length = pars.length)
    (go : ∀ cdv A outer s H vs Q E, Room n (A.deeper (envOfC qn (defScope d0) s.heap.objs.size fa cdv)) → prom vs H Q E → ∃ t, PSs (cxOf CY P w K mg base NN qn (defScope d0) fa cdv A outer s H E) (defBody d0) t ∧ t { nx := fun _ H' => Q .non H', rt := Q } (start NN vs) H) :
    FnOk P w K mg base CY (n + 1) fa dat pars prom := by
  obtain ⟨_, _, _, _, _, _, cdv, _, _, rfl, lk, ci⟩ := G.ex
  exact fn_of lk ci S ln (go cdv)
/-- a def of the text that is called while an exception is handled -/
theorem okH (G : Fun K nm qn d0 fa dat) (S : FnScope NN pars (defScope d0)) (ln : ∀ vs H Q E, prom vs H Q E → vs.length = pars.length)
    (go : ∀ cdv A outer s H vs Q E p, L2H.Hot1 A p → L2H.RoomH n (A.deeper (envOfC qn (defScope d0) s.heap.objs.size fa cdv)) → prom vs H Q E → ∃ t, PSs (L2H.cxH CY P w K mg base NN qn (defScope d0) fa cdv A outer s H E p) (defBody d0) t ∧ t { nx := fun _ H' => Q .non H', rt := Q } (start NN vs) H) :
    L2H.FnH P w K mg base CY (n + 1) fa dat pars prom := by
  obtain ⟨_, _, _, _, _, _, cdv, _, _, rfl, lk, ci⟩ := G.ex
  exact L2H.fn_ofH lk ci S ln (go cdv)
end
end NW
namespace NW
open PySem PySem.Spec PyProof.Rows L2
open TL (tl)
open StX (pa_star)
abbrev s_NoBase_init : Stmt := inClass (topS 4) 0
abbrev N_NoBase_init : List Str := ["self", "base"]
theorem sc_NoBase_init : FnScope N_NoBase_init ["self", "base"] (defScope s_NoBase_init) := ⟨rfl, rfl, rfl, by decide +kernel, rfl, by decide +kernel, by decide +kernel⟩
abbrev s_Schema_shapes_at : Stmt := inClass (topS 69) 8
abbrev N_Schema_shapes_at : List Str := ["self", "base"]
theorem sc_Schema_shapes_at : FnScope N_Schema_shapes_at ["self", "base"] (defScope s_Schema_shapes_at) := ⟨rfl, rfl, rfl, by decide +kernel, rfl, by decide +kernel, by decide +kernel⟩
/-- the class of errors for what is no base -/
structure NoB (K : PySem.W.Frag) (mg : Str → Option Value) (C fI : Addr) : Prop where
  T : OexC K C
  iC : PySem.W.findIn K (.ref C) "__init__" = some (some (.ref fI))
  tI : PySem.W.typeIn K (.ref fI) = some (.type "function")
  g : mg "NoBase" = some (.ref C)
  no : PySem.W.findIn K (.ref C) "base" = some none
section
variable {P : Program} {w : World} {K : PySem.W.Frag} {mg : Str → Option Value} {base : Heap}

def spNB (C : Addr) : Sp := fun vs H Q _ => ∃ (a : Addr) (y : V), vs = [.ref a, y] ∧ H a = some (exo a C none) ∧ ∀ dx, H dx = none → dx ≠ a → Q .non (upd (upd H dx (exd dx [("base", y)])) a (exo a C (some dx)))
theorem ok_NB {f C : Addr} {fd : FuncData} (F : Fun K "__init__" "NoBase.__init__" s_NoBase_init f fd) (N : NoB K mg C f) : FnOk P w K mg base CX0 1 f fd ["self", "base"] (spNB C) := by
  refine F.ok sc_NoBase_init (fun vs H Q E h => ?_) (fun cdv A outer s H vs Q E hr h => ?_)
  · obtain ⟨a, y, rfl, _⟩ := h
    rfl
  · obtain ⟨a, y, rfl, ha, q⟩ := h
    refine ⟨_, (pss_one (ps_ost (pv 0) (pv 1))), ?_⟩
    exact ⟨y, rfl, .ref a, rfl, a, C, rfl, N.T, N.no, .inl ⟨ha, q⟩⟩
/-- the fields that a base has -/
def FdsOf (ks : List KRow) (fs : List FRow) (z : Str) (fds : List Fld) : Prop :=
  (∃ k ∈ ks, k.nm = z ∧ fds = k.fds) ∨ (z ∉ ks.map (·.nm) ∧ ∃ f ∈ fs, f.nm = z ∧ fds = f.fds) ∨ (z ∉ ks.map (·.nm) ∧ z ∉ fs.map (·.nm) ∧ fds = [])
def spShapes (K : PySem.W.Frag) (C CN : Addr) : Sp := fun vs H Q E => ∃ (x : Addr) (y : V) (ks : List KRow) (fs : List FRow) (us : List URow) (root : Str), vs = [.ref x, y] ∧ BuiltAt C H x ks fs us root ∧ SchOk ks fs us root ∧
  ((∃ z, y = .str z ∧ z ∈ bsOf ks fs us ∧ ∀ (fds : List Fld) p H', FdsOf ks fs z fds → (∀ f ∈ fds, ShAt H' f.2.1 f.2.2) → Same H H' → H p = none → H' p = some (.dK (fkv fds)) → Q (.ref p) H') ∨
    (((∃ z, y = .str z ∧ z ∉ bsOf ks fs us) ∨ ∃ t, TyX K H y t ∧ PySem.W.kitOne K t (.type "str") = some false) ∧ ∀ d H', Same H H' → H d = none → H' d = some (.xd [("base", y)]) → E (.ref CN) (some d) H'))
theorem ok_shapes_at {f f1 f2 C CN : Addr} {fd fd1 fd2 : FuncData} (F : Fun K "shapes_at" "Schema.shapes_at" s_Schema_shapes_at f fd) (mC : InM K C f1) (bC : Binds K fd1 ["self", "base"] []) (G_contains : FnOk P w K mg base CX0 2 f1 fd1 ["self", "base"] (spContains K C))
    (NN : NoB K mg CN f2) (bN : Binds K fd2 ["self", "base"] []) (G_NB : FnOk P w K mg base CX0 1 f2 fd2 ["self", "base"] (spNB CN)) (T : Nms mg) (L : ClT K C) : FnOk P w K mg base (L2N.CX P w) 4 f fd ["self", "base"] (spShapes K C CN) := by
  have TN := NN.T
  have iC := NN.iC
  have tI := NN.tI
  have gN := NN.g
  refine okC F sc_Schema_shapes_at (fun vs H Q E h => ?_) (fun cdv A outer s H vs Q E hr h => ?_)
  · obtain ⟨x, y, ks, fs, us, root, rfl, _⟩ := h
    rfl
  · obtain ⟨x, y, ks, fs, us, root, rfl, Bt, ok, q⟩ := h
    have hu := hu_of hr
    refine ⟨_, (pss_cons (ps_if (pt_cmpR (op_notIn_own mC G_contains (hr.mono (by decide)) bC .nil pass0) (pv 1) (pv 0) (by rfl))
       (pss_one (L2N.ps_raise rfl (L2N.takes_of rfl rfl rfl rfl) (pmkN TN iC tI G_NB (hr.mono (by decide)) bN pass0 (by rfl) gN (pa_cons (pv 1) pa_nil))))
       pss_nil)
      (PSs.nox (pss_cons (ps_if (pt_cmp (pc_din hu (pv 1) (pe_fld (pv 0) rfl)) rfl)
       (pss_one (ps_ret (pe_callTy call_dictD (by rfl) T.n_dict (by decide +kernel) (pa_cons (pe_ix ix_tup (pe_dget hu (pe_fld (pv 0) rfl) (pv 1) (fun _ _ => rfl)) pe_int (fun _ _ => rfl)) pa_nil))))
       pss_nil)
      (pss_cons (ps_if (pt_cmp (pc_din hu (pv 1) (pe_fld (pv 0) rfl)) rfl)
       (pss_one (ps_ret (pe_callTy call_dictD (by rfl) T.n_dict (by decide +kernel) (pa_cons (pe_dget hu (pe_fld (pv 0) rfl) (pv 1) (fun _ _ => rfl)) pa_nil))))
       pss_nil)
      (pss_one (ps_ret pe_dnewK)))))), ?_⟩
    have k1 := ok.k1
    have f1' := ok.f1
    have u1 := ok.u1
    have Bt' := Bt
    obtain ⟨dx0, kt, ft, ut, ks', fs', us', hx, S, rk, rf, ru⟩ := Bt'
    obtain ⟨e1, e2, e3⟩ := Bt.names ks' fs' us' rk rf ru
    have bad : ∀ H1, Same H H1 → (∀ d H', Same H H' → H d = none → H' d = some (.xd [("base", y)]) → E (.ref CN) (some d) H') → ∀ a, H1 a = none → spNB CN ([.ref a, y]) (upd H1 a (exo a CN none)) (fun v H2 => v = .non ∧ ∃ (d : Addr) (fs : List (Str × V)), H2 a = some (exo a CN (some d)) ∧ H2 d = some (exd d fs) ∧ H1 d = none ∧ E (.ref CN) (some d) (upd (del H2 a) d (.xd fs))) E0 := by
      intro H1 s1 k a na
      refine ⟨a, y, rfl, upd_same, fun d nd nda => ⟨rfl, d, [("base", y)], upd_same, by rw [upd_ne nda, upd_same], ?_, ?_⟩⟩
      · rw [upd_ne nda] at nd
        exact nd
      · rw [upd_ne nda] at nd
        refine k d _ (fun b o e => ?_) (s1.free nd) upd_same
        have eb := s1 _ _ e
        have nbd : b ≠ d := ne_of_none eb nd
        have nba : b ≠ a := ne_of_none eb na
        rw [upd_ne nbd, del_ne nba, upd_ne nba, upd_ne nbd, upd_ne nba]
        exact eb
    rcases q with ⟨z, rfl, hz, q⟩ | ⟨hbad, q⟩
    · refine ⟨.str z, rfl, .ref x, rfl, x, dx0, _, rfl, hx, x, .str z, ks, fs, us, root, rfl, Bt, k1, f1', u1, .inl ⟨z, rfl, fun H1 s1 => ⟨_, rfl, _, rfl, ?_⟩⟩⟩
      rw [decide_eq_true hz]
      refine iteF ?_
      have hx1 := s1 _ _ hx
      have S1 := S.same s1
      refine ⟨.str z, rfl, .ref x, rfl, x, C, dx0, _, _, rfl, hx1, L.cl, L.nk, lkk .., kt, _, rfl, .inl ⟨kkv ks', .inr z, .inl S1.kd, rfl, rfl⟩, _, rfl, ?_⟩
      have ndk : (ks'.map (·.nm)).Nodup := by rw [e1]; exact ok.ndk
      have ndf : (fs'.map (·.nm)).Nodup := by rw [e2]; exact ok.ndf
      by_cases hk : z ∈ ks.map (·.nm)
      · obtain ⟨k', km', en⟩ := List.mem_map.mp (show z ∈ ks'.map (·.nm) by rw [e1]; exact hk)
        subst en
        rw [kkv_val ndk km']
        obtain ⟨i, hi, ei⟩ := List.getElem_of_mem km'
        have hi2 : i < ks.length := by rw [← rk.1]; exact hi
        obtain ⟨r1, r2, r3, r4⟩ := rk.2 i ks[i] k' (List.getElem?_eq_getElem hi2) (by rw [← ei]; exact List.getElem?_eq_getElem hi)
        have hr' := S1.ka k' km'
        refine iteT ⟨.ref x, rfl, x, C, dx0, _, _, rfl, hx1, L.cl, L.nk, lkk .., .str k'.nm, rfl, kt, _, rfl, .inl ⟨kkv ks', .inr k'.nm, .inl S1.kd, rfl, (kkv_val ndk km').symm⟩, k'.t, _, 1, _, rfl, rfl, .inl (.inl hr'.t), atI_nat (j := 1) rfl, k'.da, _, rfl, .inl hr'.d.at_, fun p np => q k'.fds p _ (.inl ⟨ks[i], List.getElem_mem hi2, r1.symm, r4⟩) (fun f m => (hr'.d.sh f m).same (same_new np)) (s1.trans (same_new np)) (s1.free np) upd_same⟩
      · have e0 : valV (kkv ks') (Sum.inr z) = none := valV_out (f := fun k : KRow => k.nm) (g := fun k => V.ref k.t) (by rw [e1]; exact hk)
        rw [e0]
        refine iteF ⟨.str z, rfl, .ref x, rfl, x, C, dx0, _, _, rfl, hx1, L.cl, L.nf, lkf .., ft, _, rfl, .inl ⟨fkvs fs', .inr z, .inl S1.fd, rfl, rfl⟩, _, rfl, ?_⟩
        by_cases hf : z ∈ fs.map (·.nm)
        · obtain ⟨f', fm', en⟩ := List.mem_map.mp (show z ∈ fs'.map (·.nm) by rw [e2]; exact hf)
          subst en
          rw [fkvs_val ndf fm']
          obtain ⟨i, hi, ei⟩ := List.getElem_of_mem fm'
          have hi2 : i < fs.length := by rw [← rf.1]; exact hi
          obtain ⟨r1, r2⟩ := rf.2 i fs[i] f' (List.getElem?_eq_getElem hi2) (by rw [← ei]; exact List.getElem?_eq_getElem hi)
          have hr' := S1.fa f' fm'
          refine iteT ⟨.ref x, rfl, x, C, dx0, _, _, rfl, hx1, L.cl, L.nf, lkf .., .str f'.nm, rfl, ft, _, rfl, .inl ⟨fkvs fs', .inr f'.nm, .inl S1.fd, rfl, (fkvs_val ndf fm').symm⟩, f'.da, _, rfl, .inl hr'.at_, fun p np => q f'.fds p _ (.inr (.inl ⟨hk, fs[i], List.getElem_mem hi2, r1.symm, r2⟩)) (fun f m => (hr'.sh f m).same (same_new np)) (s1.trans (same_new np)) (s1.free np) upd_same⟩
        · have e0' : valV (fkvs fs') (Sum.inr z) = none := valV_out (f := fun k : FRow => k.nm) (g := fun k => V.ref k.da) (by rw [e2]; exact hf)
          rw [e0']
          exact iteF fun p np => q [] p _ (.inr (.inr ⟨hk, hf, rfl⟩)) (fun _ m => nomatch m) (s1.trans (same_new np)) (s1.free np) upd_same
    · rcases hbad with ⟨z, rfl, hz⟩ | ⟨t, ht, hkt⟩
      · refine ⟨.str z, rfl, .ref x, rfl, x, dx0, _, rfl, hx, x, .str z, ks, fs, us, root, rfl, Bt, k1, f1', u1, .inl ⟨z, rfl, fun H1 s1 => ⟨_, rfl, _, rfl, ?_⟩⟩⟩
        rw [decide_eq_false hz]
        exact iteT ⟨.str z, rfl, by show 1 ≤ 1000; decide, bad H1 s1 q⟩
      · exact ⟨y, rfl, .ref x, rfl, x, dx0, _, rfl, hx, x, y, ks, fs, us, root, rfl, Bt, k1, f1', u1, .inr ⟨t, ht, hkt, fun H1 s1 => ⟨_, rfl, _, rfl, iteT ⟨y, rfl, by show 1 ≤ 1000; decide, bad H1 s1 q⟩⟩⟩⟩
end
end NW
namespace NW
open PySem PySem.Spec PyProof.Rows L2
open TL (tl)
open StX (pa_star)
abbrev s_Schema_fields : Stmt := inClass (topS 69) 9
abbrev N_Schema_fields : List Str := ["self", "base"]
theorem sc_Schema_fields : FnScope N_Schema_fields ["self", "base"] (defScope s_Schema_fields) := ⟨rfl, rfl, rfl, by decide +kernel, rfl, by decide +kernel, by decide +kernel⟩section
variable {P : Program} {w : World} {K : PySem.W.Frag} {mg : Str → Option Value} {base : Heap}

theorem FdsOf.few {ks : List KRow} {fs : List FRow} {us : List URow} {root z : Str} {fds : List Fld} (ok : SchOk ks fs us root) (h : FdsOf ks fs z fds) : fds.length ≤ 5 := by
  rcases h with ⟨k, m, _, rfl⟩ | ⟨_, f, m, _, rfl⟩ | ⟨_, _, rfl⟩
  · exact (ok.kd k m).n1
  · exact Nat.le_trans (ok.fd f m).n1 (by decide)
  · exact Nat.zero_le _
def spFields (K : PySem.W.Frag) (C CN : Addr) : Sp := fun vs H Q E => ∃ (x : Addr) (y : V) (ks : List KRow) (fs : List FRow) (us : List URow) (root : Str), vs = [.ref x, y] ∧ BuiltAt C H x ks fs us root ∧ SchOk ks fs us root ∧
  ((∃ z, y = .str z ∧ z ∈ bsOf ks fs us ∧ ∀ (fds : List Fld) (l : List Str) p H', FdsOf ks fs z fds → l.Perm (fds.map (·.1)) → sortedS l = true → Same H H' → H p = none → H' p = some (.lst (l.map V.str)) → Q (.ref p) H') ∨
    (((∃ z, y = .str z ∧ z ∉ bsOf ks fs us) ∨ ∃ t, TyX K H y t ∧ PySem.W.kitOne K t (.type "str") = some false) ∧ ∀ d H', Same H H' → H d = none → H' d = some (.xd [("base", y)]) → E (.ref CN) (some d) H'))
theorem ok_fields {f f1 C CN : Addr} {fd fd1 : FuncData} (F : Fun K "fields" "Schema.fields" s_Schema_fields f fd) (M : Mt K C "shapes_at" "Schema.shapes_at" s_Schema_shapes_at f1 fd1 ["self", "base"]) (G_shapes_at : FnOk P w K mg base (L2N.CX P w) 4 f1 fd1 ["self", "base"] (spShapes K C CN))
    (T : Nms mg) (L : ClT K C) : FnOk P w K mg base (L2N.CX P w) 5 f fd ["self", "base"] (spFields K C CN) := by
  refine okC F sc_Schema_fields (fun vs H Q E h => ?_) (fun cdv A outer s H vs Q E hr h => ?_)
  · obtain ⟨x, y, ks, fs, us, root, rfl, _⟩ := h
    rfl
  · obtain ⟨x, y, ks, fs, us, root, rfl, Bt, ok, q⟩ := h
    refine ⟨_, (pss_one (ps_ret (pe_callB (call_sortedD rfl) (by rfl) T.n_sorted (by decide +kernel) (pa_cons (pe_methX (pv 0) L.cl M.m G_shapes_at (hr.mono (by decide)) M.b (fun σ => L2N.passAt (L2N.takes_of rfl rfl rfl rfl) σ) (pa_cons (pv 1) pa_nil)) pa_nil)))), ?_⟩
    have Bt' := Bt
    obtain ⟨dx0, kt, ft, ut, ks', fs', us', hx, _⟩ := Bt'
    refine ⟨.ref x, rfl, x, dx0, _, rfl, hx, lkn _ _ _ _ (by decide +kernel) (by decide +kernel) (by decide +kernel) (by decide +kernel), y, rfl, x, y, ks, fs, us, root, rfl, Bt, ok, ?_⟩
    rcases q with ⟨z, rfl, hz, q⟩ | ⟨hbad, q⟩
    · refine .inl ⟨z, rfl, hz, fun fds p1 H1 hf _ s1 n1 e1 => ⟨p1, fkv fds, _, rfl, .inl e1, fkv_keys fds, ?_, fun ys p pm so np => q fds ys p _ hf pm so (s1.trans (same_new np)) (s1.free np) upd_same⟩⟩
      rw [List.length_map]
      exact Nat.lt_of_le_of_lt (hf.few ok) (by decide)
    · exact .inr ⟨hbad, q⟩
end
end NW
namespace NW
open PySem PySem.Spec PyProof.Rows L2
open TL (tl)
open StX (pa_star)
abbrev s_Schema_shape_of : Stmt := inClass (topS 69) 10
abbrev N_Schema_shape_of : List Str := ["self", "base", "field", "shapes"]
theorem sc_Schema_shape_of : FnScope N_Schema_shape_of ["self", "base", "field"] (defScope s_Schema_shape_of) := ⟨rfl, rfl, rfl, by decide +kernel, rfl, by decide +kernel, by decide +kernel⟩
abbrev s_NoField_init : Stmt := inClass (topS 5) 0
abbrev N_NoField_init : List Str := ["self", "base", "field"]
theorem sc_NoField_init : FnScope N_NoField_init ["self", "base", "field"] (defScope s_NoField_init) := ⟨rfl, rfl, rfl, by decide +kernel, rfl, by decide +kernel, by decide +kernel⟩
structure NoF (K : PySem.W.Frag) (mg : Str → Option Value) (C fI : Addr) : Prop where
  T : OexC K C
  iC : PySem.W.findIn K (.ref C) "__init__" = some (some (.ref fI))
  tI : PySem.W.typeIn K (.ref fI) = some (.type "function")
  g : mg "NoField" = some (.ref C)
  nb : PySem.W.findIn K (.ref C) "base" = some none
  nf : PySem.W.findIn K (.ref C) "field" = some none
section
variable {P : Program} {w : World} {K : PySem.W.Frag} {mg : Str → Option Value} {base : Heap}

def spNF (C : Addr) : Sp := fun vs H Q _ => ∃ (a : Addr) (y u : V), vs = [.ref a, y, u] ∧ H a = some (exo a C none) ∧ ∀ dx H', H dx = none → dx ≠ a → H' a = some (exo a C (some dx)) → H' dx = some (exd dx [("field", u), ("base", y)]) → (∀ b, b ≠ a → b ≠ dx → H' b = H b) → Q .non H'
theorem ok_NF {f C : Addr} {fd : FuncData} (F : Fun K "__init__" "NoField.__init__" s_NoField_init f fd) (N : NoF K mg C f) : FnOk P w K mg base CX0 1 f fd ["self", "base", "field"] (spNF C) := by
  refine F.ok sc_NoField_init (fun vs H Q E h => ?_) (fun cdv A outer s H vs Q E hr h => ?_)
  · obtain ⟨a, y, u, rfl, _⟩ := h
    rfl
  · obtain ⟨a, y, u, rfl, ha, q⟩ := h
    refine ⟨_, (pss_cons (ps_ost (pv 0) (pv 1))
      (pss_one (ps_ost (pv 0) (pv 2)))), ?_⟩
    refine ⟨y, rfl, .ref a, rfl, a, C, rfl, N.T, N.nb, .inl ⟨ha, fun dx nd nda => ?_⟩⟩
    refine ⟨u, rfl, .ref a, rfl, a, C, rfl, N.T, N.nf, .inr ⟨dx, [("base", y)], upd_same, by rw [upd_ne nda]; exact upd_same, by show 1 ≤ 900; decide, ?_⟩⟩
    refine q dx _ nd nda ?_ ?_ ?_
    · rw [upd_ne (Ne.symm nda)]
      exact upd_same
    · exact upd_same
    · intro b h1 h2
      rw [upd_ne h2, upd_ne h1, upd_ne h2]
/-- a field's shape; what it may let out: no base, or no field of the base -/
def spShapeOf (K : PySem.W.Frag) (C CN CF : Addr) : Sp := fun vs H Q E => ∃ (x : Addr) (y u : V) (ks : List KRow) (fs : List FRow) (us : List URow) (root : Str), vs = [.ref x, y, u] ∧ BuiltAt C H x ks fs us root ∧ SchOk ks fs us root ∧
  ((∃ z, y = .str z ∧ z ∈ bsOf ks fs us ∧ ∀ (fds : List Fld), FdsOf ks fs z fds →
      ((∃ g, u = .str g ∧ ((∃ fl ∈ fds, fl.1 = g ∧ ∀ H', Same H H' → ShAt H' fl.2.1 fl.2.2 → Q fl.2.1 H') ∨ (g ∉ fds.map (·.1) ∧ ∀ d H', Same H H' → H d = none → H' d = some (.xd [("field", u), ("base", y)]) → E (.ref CF) (some d) H'))) ∨
        ((∃ t, (∀ H', Same H H' → TyX K H' u t) ∧ PySem.W.kitOne K t (.type "str") = some false) ∧ ∀ d H', Same H H' → H d = none → H' d = some (.xd [("field", u), ("base", y)]) → E (.ref CF) (some d) H'))) ∨
    (((∃ z, y = .str z ∧ z ∉ bsOf ks fs us) ∨ ∃ t, TyX K H y t ∧ PySem.W.kitOne K t (.type "str") = some false) ∧ ∀ d H', Same H H' → H d = none → H' d = some (.xd [("base", y)]) → E (.ref CN) (some d) H'))
theorem FdsOf.nd {ks : List KRow} {fs : List FRow} {us : List URow} {root z : Str} {fds : List Fld} (ok : SchOk ks fs us root) (h : FdsOf ks fs z fds) : (fds.map (·.1)).Nodup := by
  rcases h with ⟨k, m, _, rfl⟩ | ⟨_, f, m, _, rfl⟩ | ⟨_, _, rfl⟩
  · exact (ok.kd k m).nd
  · exact (ok.fd f m).nd
  · exact List.nodup_nil
theorem ok_shape_of {f f1 f2 f3 C CN CF : Addr} {fd fd1 fd2 fd3 : FuncData} (F : Fun K "shape_of" "Schema.shape_of" s_Schema_shape_of f fd) (M : Mt K C "shapes_at" "Schema.shapes_at" s_Schema_shapes_at f1 fd1 ["self", "base"]) (G_shapes_at : FnOk P w K mg base (L2N.CX P w) 4 f1 fd1 ["self", "base"] (spShapes K C CN))
    (D_is_key : Df K mg "is_key" s_is_key f2 fd2 ["name", "table"]) (G_is_key : FnOk P w K mg base CX0 1 f2 fd2 ["name", "table"] (spIsKey K)) (NF : NoF K mg CF f3) (bF : Binds K fd3 ["self", "base", "field"] []) (G_NF : FnOk P w K mg base CX0 1 f3 fd3 ["self", "base", "field"] (spNF CF))
    (T : Nms mg) (L : ClT K C) : FnOk P w K mg base (L2N.CX P w) 5 f fd ["self", "base", "field"] (spShapeOf K C CN CF) := by
  refine okC F sc_Schema_shape_of (fun vs H Q E h => ?_) (fun cdv A outer s H vs Q E hr h => ?_)
  · obtain ⟨x, y, u, ks, fs, us, root, rfl, _⟩ := h
    rfl
  · obtain ⟨x, y, u, ks, fs, us, root, rfl, Bt, ok, q⟩ := h
    have hu := hu_of hr
    refine ⟨_, (pss_cons (ps_set (i := 3) sc_Schema_shape_of.nd rfl (.inl rfl) (pe_methX (pv 0) L.cl M.m G_shapes_at (hr.mono (by decide)) M.b (fun σ => L2N.passAt (L2N.takes_of rfl rfl rfl rfl) σ) (pa_cons (pv 1) pa_nil)))
      (pss_cons (ps_if (pt_not (pt_val (pe_call G_is_key (hr.mono (by decide)) (by rfl) D_is_key.g D_is_key.F.kp D_is_key.b .nil pass0 (pa_cons (pv 2) (pa_cons (pv 3) pa_nil)))))
       (pss_one (L2N.ps_raise rfl (L2N.takes_of rfl rfl rfl rfl) (pmkN NF.T NF.iC NF.tI G_NF (hr.mono (by decide)) bF pass0 (by rfl) NF.g (pa_cons (pv 1) (pa_cons (pv 2) pa_nil)))))
       pss_nil)
      (pss_one (ps_ret (pe_dget hu (pv 3) (pv 2) (fun _ _ => rfl)))))), ?_⟩
    have Bt' := Bt
    obtain ⟨dx0, kt, ft, ut, ks', fs', us', hx, _⟩ := Bt'
    refine ⟨.ref x, rfl, x, dx0, _, rfl, hx, lkn _ _ _ _ (by decide +kernel) (by decide +kernel) (by decide +kernel) (by decide +kernel), y, rfl, x, y, ks, fs, us, root, rfl, Bt, ok, ?_⟩
    rcases q with ⟨z, rfl, hz, q⟩ | ⟨hbad, q⟩
    · refine .inl ⟨z, rfl, hz, fun fds p1 H1 hf hsh s1 n1 e1 => ?_⟩
      have bad : (∀ d H', Same H H' → H d = none → H' d = some (.xd [("field", u), ("base", .str z)]) → E (.ref CF) (some d) H') → ∀ a, H1 a = none → spNF CF ([.ref a, .str z, u]) (upd H1 a (exo a CF none)) (fun v H2 => v = .non ∧ ∃ (d : Addr) (fs : List (Str × V)), H2 a = some (exo a CF (some d)) ∧ H2 d = some (exd d fs) ∧ H1 d = none ∧ E (.ref CF) (some d) (upd (del H2 a) d (.xd fs))) E0 := by
        intro k a na
        refine ⟨a, .str z, u, rfl, upd_same, fun d H2 nd nda ha hd rest => ⟨rfl, d, _, ha, hd, ?_, ?_⟩⟩
        · rw [upd_ne nda] at nd
          exact nd
        · rw [upd_ne nda] at nd
          refine k d _ (fun b o e => ?_) (s1.free nd) upd_same
          have eb := s1 _ _ e
          have nbd : b ≠ d := ne_of_none eb nd
          have nba : b ≠ a := ne_of_none eb na
          rw [upd_ne nbd, del_ne nba, rest b nba nbd, upd_ne nba]
          exact eb
      rcases q fds hf with ⟨g, rfl, ⟨fl, fm, rfl, q1⟩ | ⟨ng, q2⟩⟩ | ⟨⟨t, ht, hk⟩, q3⟩
      · have hv : valV (fkv fds) (Sum.inr fl.1) = some fl.2.1 := valV_map (f := fun f : Fld => f.1) (g := fun f => f.2.1) (hf.nd ok) fm
        refine ⟨.str fl.1, rfl, .ref p1, rfl, .str fl.1, p1, rfl, .inl ⟨fl.1, rfl, .inr ⟨fkv fds, .inl e1, ?_⟩⟩⟩
        rw [hv]
        exact ⟨true, rfl, iteF ⟨.ref p1, rfl, .str fl.1, rfl, p1, _, rfl, .inl ⟨fkv fds, .inr fl.1, .inl e1, rfl, hv.symm⟩, q1 H1 s1 (hsh fl fm)⟩⟩
      · have hv : valV (fkv fds) (Sum.inr g) = none := valV_out (f := fun f : Fld => f.1) (g := fun f => f.2.1) ng
        refine ⟨.str g, rfl, .ref p1, rfl, .str g, p1, rfl, .inl ⟨g, rfl, .inr ⟨fkv fds, .inl e1, ?_⟩⟩⟩
        rw [hv]
        exact ⟨false, rfl, iteT ⟨.str z, rfl, .str g, rfl, by show 2 ≤ 1000; decide, bad q2⟩⟩
      · exact ⟨u, rfl, .ref p1, rfl, u, p1, rfl, .inr ⟨t, ht H1 s1, hk, false, rfl, iteT ⟨.str z, rfl, u, rfl, by show 2 ≤ 1000; decide, bad q3⟩⟩⟩
    · exact .inr ⟨hbad, q⟩
end
end NW
namespace NW
open PySem PySem.Spec PyProof.Rows L2
/-! ### statements -/
inductive St where
  | field (f key : Str) (rows : List St)
  | kind (key : Str)
  | on (base : Str) (rows : List St)
  | part (name : Str)
  | iff (flag : Str) (want : Bool) (rows : List St)
def St.rows : St → List St
  | .field _ _ r => r
  | .on _ r => r
  | .iff _ _ r => r
  | _ => []
mutual
inductive StAt (H : Hp) : V → St → Prop
  | field {a : Addr} {f k : Str} {r : V} {rows : List St} : H a = some (.tup [.str "field", .str f, .str k, r]) → RowAt H r rows → StAt H (.ref a) (.field f k rows)
  | kind {a : Addr} {k : Str} : H a = some (.tup [.str "kind", .str k]) → StAt H (.ref a) (.kind k)
  | on {a : Addr} {z : Str} {r : V} {rows : List St} : H a = some (.tup [.str "on", .str z, r]) → RowAt H r rows → StAt H (.ref a) (.on z rows)
  | part {a : Addr} {z : Str} : H a = some (.tup [.str "part", .str z]) → StAt H (.ref a) (.part z)
  | iff {a : Addr} {z : Str} {b : Bool} {r : V} {rows : List St} : H a = some (.tup [.str "if", .str z, .bl b, r]) → RowAt H r rows → StAt H (.ref a) (.iff z b rows)
inductive RowAt (H : Hp) : V → List St → Prop
  | mk {a : Addr} {vs : List V} {rows : List St} : H a = some (.tup vs) → AllAt H vs rows → RowAt H (.ref a) rows
inductive AllAt (H : Hp) : List V → List St → Prop
  | nil : AllAt H [] []
  | cons {v : V} {vs : List V} {s : St} {rows : List St} : StAt H v s → AllAt H vs rows → AllAt H (v :: vs) (s :: rows)
end
mutual
theorem StAt.same {H H' : Hp} (s : Same H H') : ∀ {v : V} {t : St}, StAt H v t → StAt H' v t
  | _, _, .field e r => .field (s _ _ e) (r.same s)
  | _, _, .kind e => .kind (s _ _ e)
  | _, _, .on e r => .on (s _ _ e) (r.same s)
  | _, _, .part e => .part (s _ _ e)
  | _, _, .iff e r => .iff (s _ _ e) (r.same s)
theorem RowAt.same {H H' : Hp} (s : Same H H') : ∀ {v : V} {t : List St}, RowAt H v t → RowAt H' v t
  | _, _, .mk e r => .mk (s _ _ e) (r.same s)
theorem AllAt.same {H H' : Hp} (s : Same H H') : ∀ {v : List V} {t : List St}, AllAt H v t → AllAt H' v t
  | _, _, .nil => .nil
  | _, _, .cons h t => .cons (h.same s) (t.same s)
end
mutual
theorem StAt.grO {H H' : Hp} {b : Addr} (hO : Oth H b) (g : Gr b H H') : ∀ {v : V} {t : St}, StAt H v t → StAt H' v t
  | _, _, .field e r => .field (g _ _ (hO.net e) e) (r.grO hO g)
  | _, _, .kind e => .kind (g _ _ (hO.net e) e)
  | _, _, .on e r => .on (g _ _ (hO.net e) e) (r.grO hO g)
  | _, _, .part e => .part (g _ _ (hO.net e) e)
  | _, _, .iff e r => .iff (g _ _ (hO.net e) e) (r.grO hO g)
theorem RowAt.grO {H H' : Hp} {b : Addr} (hO : Oth H b) (g : Gr b H H') : ∀ {v : V} {t : List St}, RowAt H v t → RowAt H' v t
  | _, _, .mk e r => .mk (g _ _ (hO.net e) e) (r.grO hO g)
theorem AllAt.grO {H H' : Hp} {b : Addr} (hO : Oth H b) (g : Gr b H H') : ∀ {v : List V} {t : List St}, AllAt H v t → AllAt H' v t
  | _, _, .nil => .nil
  | _, _, .cons h t => .cons (h.grO hO g) (t.grO hO g)
end
theorem AllAt.len {H : Hp} : ∀ {vs : List V} {rows : List St}, AllAt H vs rows → vs.length = rows.length
  | _, _, .nil => rfl
  | _, _, .cons _ t => by rw [List.length_cons, List.length_cons, t.len]
theorem AllAt.get {H : Hp} : ∀ {vs : List V} {rows : List St} {i : Nat} {s : St}, AllAt H vs rows → rows[i]? = some s → ∃ v, vs[i]? = some v ∧ StAt H v s
  | _, _, _, _, .nil, e => by simp at e
  | _, _, 0, _, .cons (v := v) h _, e => by
    simp only [List.getElem?_cons_zero] at e
    cases e
    exact ⟨v, rfl, h⟩
  | _, _, i + 1, _, .cons _ t, e => by
    simp only [List.getElem?_cons_succ] at e
    obtain ⟨v, h1, h2⟩ := t.get e
    exact ⟨v, by rw [List.getElem?_cons_succ]; exact h1, h2⟩
theorem AllAt.snoc {H : Hp} {v : V} {s : St} : ∀ {vs : List V} {rows : List St}, AllAt H vs rows → StAt H v s → AllAt H (vs ++ [v]) (rows ++ [s])
  | _, _, .nil, h => .cons h .nil
  | _, _, .cons x t, h => .cons x (t.snoc h)
/-! ### as plain data -/
mutual
def stD : St → PyData
  | .field f k r => .tuple [.str "field", .str f, .str k, .tuple (stsD r)]
  | .kind k => .tuple [.str "kind", .str k]
  | .on z r => .tuple [.str "on", .str z, .tuple (stsD r)]
  | .part z => .tuple [.str "part", .str z]
  | .iff z b r => .tuple [.str "if", .str z, .bool b, .tuple (stsD r)]
def stsD : List St → List PyData
  | [] => []
  | s :: r => stD s :: stsD r
end
mutual
theorem StAt.dp {K : PySem.W.Frag} {H : Hp} : ∀ {v : V} {t : St}, StAt H v t → Dp K H v (stD t)
  | _, _, .field e r => .tup (.inl (.inl e)) (.cons (.str _) (.cons (.str _) (.cons (.str _) (.cons r.dp .nil))))
  | _, _, .kind e => .tup (.inl (.inl e)) (.cons (.str _) (.cons (.str _) .nil))
  | _, _, .on e r => .tup (.inl (.inl e)) (.cons (.str _) (.cons (.str _) (.cons r.dp .nil)))
  | _, _, .part e => .tup (.inl (.inl e)) (.cons (.str _) (.cons (.str _) .nil))
  | _, _, .iff e r => .tup (.inl (.inl e)) (.cons (.str _) (.cons (.str _) (.cons (.bl _) (.cons r.dp .nil))))
theorem RowAt.dp {K : PySem.W.Frag} {H : Hp} : ∀ {v : V} {t : List St}, RowAt H v t → Dp K H v (.tuple (stsD t))
  | _, _, .mk e r => .tup (.inl (.inl e)) r.dp
theorem AllAt.dp {K : PySem.W.Frag} {H : Hp} : ∀ {v : List V} {t : List St}, AllAt H v t → DpAll K H v (stsD t)
  | _, _, .nil => .nil
  | _, _, .cons h t => .cons h.dp t.dp
end
end NW
namespace NW
open PySem PySem.Spec PyProof.Rows L2
open TL (tl)
open StX (pa_star)
abbrev s_is_rows : Stmt := topS 25
abbrev N_is_rows : List Str := ["rows"]
theorem sc_is_rows : FnScope N_is_rows ["rows"] (defScope s_is_rows) := ⟨rfl, rfl, rfl, by decide +kernel, rfl, by decide +kernel, by decide +kernel⟩
abbrev s_inner_rows : Stmt := topS 30
abbrev N_inner_rows : List Str := ["statement"]
theorem sc_inner_rows : FnScope N_inner_rows ["statement"] (defScope s_inner_rows) := ⟨rfl, rfl, rfl, by decide +kernel, rfl, by decide +kernel, by decide +kernel⟩
abbrev s_level_of : Stmt := topS 44
abbrev N_level_of : List Str := ["place"]
theorem sc_level_of : FnScope N_level_of ["place"] (defScope s_level_of) := ⟨rfl, rfl, rfl, by decide +kernel, rfl, by decide +kernel, by decide +kernel⟩
theorem RowAt.tup {H : Hp} {v : V} {rows : List St} (h : RowAt H v rows) : ∃ a vs, v = .ref a ∧ H a = some (.tup vs) ∧ AllAt H vs rows := by
  cases h with
  | mk e r => exact ⟨_, _, rfl, e, r⟩
section
variable {P : Program} {w : World} {K : PySem.W.Frag} {mg : Str → Option Value} {base : Heap}
def spIsRows : Sp := fun vs H Q _ => ∃ (v : V) (rows : List St), vs = [v] ∧ RowAt H v rows ∧ Q (.bl (decide (rows.length ≤ 6))) H
theorem ok_is_rows {f : Addr} {fd : FuncData} {t : Tok} (D : Df K mg "is_rows" s_is_rows f fd ["rows"]) (T : Nms mg) (gR : mg "MOST_ROWS" = some (.int 6 t)) : FnOk P w K mg base CX0 1 f fd ["rows"] spIsRows := by
  refine D.F.ok sc_is_rows (fun vs H Q E h => ?_) (fun cdv A outer s H vs Q E hr h => ?_)
  · obtain ⟨v, rows, rfl, _⟩ := h
    rfl
  · obtain ⟨v, rows, rfl, hv, q⟩ := h
    obtain ⟨a, vs, rfl, e, r⟩ := hv.tup
    refine ⟨_, (pss_one (ps_ret (pe_and (pe_callB call_isi (by rfl) T.n_isinstance (by decide +kernel) (pa_cons (pv 0) (pa_cons (pe_bltn (v := .ty "tuple") (by rfl) T.n_tuple (by decide +kernel) rfl) pa_nil))) (pe_one (pe_cmpR op_le (pe_callB call_len_seq (by rfl) T.n_len (by decide +kernel) (pa_cons (pv 0) pa_nil)) (pe_glob (v := .int 6) (by rfl) gR ⟨_, rfl⟩) (nomark _)))))), ?_⟩
    refine ⟨.ref a, rfl, _, _, _, _, true, rfl, .ty "tuple", .base (.tup e), kit_ty (by decide +kernel), true, rfl, iteT ?_⟩
    refine ⟨.ref a, rfl, a, vs, rfl, .inr (.inl (.inl e)), _, _, rfl, rfl, ?_⟩
    have : decide ((vs.length : Int) ≤ 6) = decide (rows.length ≤ 6) := by
      rw [r.len]
      by_cases h : rows.length ≤ 6
      · rw [decide_eq_true h, decide_eq_true (by omega)]
      · rw [decide_eq_false h, decide_eq_false (by omega)]
    show Q (.bl (decide ((vs.length : Int) ≤ 6))) H
    rw [this]
    exact q
def spInnerRows : Sp := fun vs H Q _ => ∃ (v : V) (t : St), vs = [v] ∧ StAt H v t ∧ ∀ r H', Same H H' → RowAt H' r t.rows → Q r H'
theorem ok_inner_rows {f : Addr} {fd : FuncData} (D : Df K mg "inner_rows" s_inner_rows f fd ["statement"]) (T : Nms mg) : FnOk P w K mg base CX0 1 f fd ["statement"] spInnerRows := by
  refine D.F.ok sc_inner_rows (fun vs H Q E h => ?_) (fun cdv A outer s H vs Q E hr h => ?_)
  · obtain ⟨v, rows, rfl, _⟩ := h
    rfl
  · obtain ⟨v, t, rfl, hv, q⟩ := h
    refine ⟨_, (pss_cons (ps_if (PW.pt (pw_or (pt_cmpR op_eq (pe_ix ix_tup (pv 0) pe_int (fun _ _ => rfl)) pe_str (nomark _)) (pw_or1 (pt_cmpR op_eq (pe_ix ix_tup (pv 0) pe_int (fun _ _ => rfl)) pe_str (nomark _)))))
       (pss_one (ps_ret (pe_tup pa_nil)))
       pss_nil)
      (pss_one (ps_ret (pe_ix ix_tup (pv 0) (pe_un un_neg pe_int) (fun _ _ => rfl))))), ?_⟩
    have hS : ∀ n : Nat, n ≤ 1000 → n ≤ sizeLine := fun n h => Nat.le_trans h (by decide)
    have s0 : Same H H := fun _ _ e => e
    have nk : ∀ {x : Str}, x ≠ "kind" → ¬ (V.str x = V.str "kind") := fun h e => h (V.str.inj e)
    have np : ∀ {x : Str}, x ≠ "part" → ¬ (V.str x = V.str "part") := fun h e => h (V.str.inj e)
    cases hv with
    | field e r => exact ⟨.ref _, rfl, _, _, 0, _, rfl, rfl, .inl (.inl e), atI_nat (j := 0) rfl, rfl, false, blF (nk (by decide +kernel)), iteF ⟨.ref _, rfl, _, _, 0, _, rfl, rfl, .inl (.inl e), atI_nat (j := 0) rfl, rfl, false, blF (np (by decide +kernel)), iteF ⟨.ref _, rfl, 1, rfl, _, _, -1, _, rfl, rfl, .inl (.inl e), rfl, q _ _ s0 r⟩⟩⟩
    | kind e => exact ⟨.ref _, rfl, _, _, 0, _, rfl, rfl, .inl (.inl e), atI_nat (j := 0) rfl, rfl, true, blT rfl, iteT (iteT ⟨hS 0 (by decide), fun p np => q _ _ (same_new np) (.mk upd_same .nil)⟩)⟩
    | on e r => exact ⟨.ref _, rfl, _, _, 0, _, rfl, rfl, .inl (.inl e), atI_nat (j := 0) rfl, rfl, false, blF (nk (by decide +kernel)), iteF ⟨.ref _, rfl, _, _, 0, _, rfl, rfl, .inl (.inl e), atI_nat (j := 0) rfl, rfl, false, blF (np (by decide +kernel)), iteF ⟨.ref _, rfl, 1, rfl, _, _, -1, _, rfl, rfl, .inl (.inl e), rfl, q _ _ s0 r⟩⟩⟩
    | part e => exact ⟨.ref _, rfl, _, _, 0, _, rfl, rfl, .inl (.inl e), atI_nat (j := 0) rfl, rfl, false, blF (nk (by decide +kernel)), iteF ⟨.ref _, rfl, _, _, 0, _, rfl, rfl, .inl (.inl e), atI_nat (j := 0) rfl, rfl, true, blT rfl, iteT ⟨hS 0 (by decide), fun p np => q _ _ (same_new np) (.mk upd_same .nil)⟩⟩⟩
    | iff e r => exact ⟨.ref _, rfl, _, _, 0, _, rfl, rfl, .inl (.inl e), atI_nat (j := 0) rfl, rfl, false, blF (nk (by decide +kernel)), iteF ⟨.ref _, rfl, _, _, 0, _, rfl, rfl, .inl (.inl e), atI_nat (j := 0) rfl, rfl, false, blF (np (by decide +kernel)), iteF ⟨.ref _, rfl, 1, rfl, _, _, -1, _, rfl, rfl, .inl (.inl e), rfl, q _ _ s0 r⟩⟩⟩
end
end NW
namespace NW
open PySem PySem.Spec PyProof.Rows L2
open TL (tl)
open StX (pa_star)
abbrev s_items_of : Stmt := topS 42
abbrev N_items_of : List Str := ["top", "place", "base", "rows", "index"]
theorem sc_items_of : FnScope N_items_of ["top"] (defScope s_items_of) := ⟨rfl, rfl, rfl, by decide +kernel, rfl, by decide +kernel, by decide +kernel⟩
theorem op_catAK {X : Cx} (K : PySem.W.Frag) (h : X.K = K := by rfl) : OpR X (binaryOp .Add) (rCatA K) := h ▸ op_catA
/-- a comprehension whose items are anything that stays -/
theorem lc_stay {J : It} {n j : Nat} {G : Hp → Prop} {Y : Nat → Hp → V → Hp → Prop} (w : Walk J n G Y) {te : TE} {vs : List Nat} {σ : L2.St} {H1 : Hp} {Da : Addr} {Qd : Hp → Prop} (Itm : Nat → V → Prop) (Pd : Nat → V → Hp → Prop)
    (hY : ∀ i H x H', i < n → Y i H x H' → H' = H ∧ Itm i x) (hG : ∀ H, Same H1 H → G H) (nD : H1 Da = none) (few : n ≤ 1000) (hw : ∀ x, wipe ((wipe σ vs).set j (some x)) vs = wipe σ vs)
    (hs : ∀ i x H acc (Q : VK), i < n → Itm i x → Same H1 H → H Da = some (.lst acc) → (∀ v H', Same H H' → (∀ G, Gr Da H' G → Pd i v G) → Q v H') → te ((wipe σ vs).set j (some x)) H Q)
    (hd : ∀ H xs, Same H1 H → H Da = some (.lst xs) → xs.length = n → (∀ (i : Nat) v, xs[i]? = some v → ∀ G, Gr Da H G → Pd i v G) → Qd H) :
    ∃ W : Nat → Nat → Hp → Prop, (∃ m, W 0 m (upd H1 Da (.lst []))) ∧ ∀ i m H, W i m H →
      (J.stop i H ∧ Qd H) ∨ (J.go i H ∧ ∃ Nx : Hp → Prop, (∀ H', Nx H' → ∃ m', m' < m ∧ W (i + 1) m' H') ∧ ∀ x H', J.yld i H x H' → gName j x (wipe σ vs) H' fun σ2 H2 => wipe σ2 vs = wipe σ vs ∧ tYes σ2 H2 fun b H3 =>
        if b = true then te σ2 H3 fun y H4 => ∃ acc, H4 Da = some (.lst acc) ∧ acc.length < sizeLine ∧ Nx (upd H4 Da (.lst (acc ++ [y]))) else Nx H3) := by
  refine lc_it w (fun i H' => Same H1 H' ∧ ∃ (xs : List V), H' Da = some (.lst xs) ∧ xs.length = i ∧ ∀ (k : Nat) x, xs[k]? = some x → ∀ G, Gr Da H' G → Pd k x G)
    ⟨same_new nD, [], upd_same, rfl, fun k x h => by simp at h⟩ (fun i H _ p => hG H p.1) ?_ (fun H ⟨s, xs, e, hx, al⟩ => hd H xs s e hx al)
  rintro i x H H' hi ⟨sm, xs, e, hx, al⟩ y
  obtain ⟨rfl, it⟩ := hY i H x H' hi y
  refine ⟨hw x, lcT (hs i x _ _ _ hi it sm e fun v H4 s4 dv => ⟨xs, s4 _ _ e, ?_, same_upd (sm.trans s4) nD, xs ++ [v], upd_same, by rw [List.length_append, hx]; rfl, ?_⟩)⟩
  · rw [hx]
    exact Nat.lt_of_le_of_lt (show i ≤ 1000 by omega) (by decide)
  · intro k x2 h1 G gG
    have gU : Gr Da H4 (upd H4 Da (.lst (xs ++ [v]))) := fun a o n h => by rw [upd_ne n]; exact h
    by_cases hk : k < xs.length
    · rw [List.getElem?_append_left hk] at h1
      exact al k x2 h1 G ((Same.gr s4).trans (gU.trans gG))
    · rw [List.getElem?_append_right (Nat.le_of_not_lt hk)] at h1
      have hk0 : k - xs.length = 0 := by
        cases h : k - xs.length with
        | zero => rfl
        | succ m => rw [h] at h1; cases h1
      rw [hk0] at h1
      cases h1
      have : k = i := by omega
      subst this
      exact dv G (gU.trans gG)
/-- a statement that waits: its place, the base it stands at, itself -/
def ItemAt (H : Hp) (v : V) (pl : List Key) (z : Str) (t : St) : Prop := ∃ a p s, v = .ref a ∧ H a = some (.tup [.ref p, .str z, s]) ∧ H p = some (.tup (pl.map kV)) ∧ StAt H s t
section
variable {P : Program} {w : World} {K : PySem.W.Frag} {mg : Str → Option Value} {base : Heap}
def spItemsOf : Sp := fun vs H Q _ => ∃ (a p : Addr) (pl : List Key) (z : Str) (r : V) (rows : List St), vs = [.ref a] ∧ H a = some (.tup [.ref p, .str z, r]) ∧ H p = some (.tup (pl.map kV)) ∧ pl.length ≤ 20 ∧ RowAt H r rows ∧ rows.length ≤ 1000 ∧
  ∀ q xs H', Same H H' → H q = none → H' q = some (.lst xs) → xs.length = rows.length → (∀ (i : Nat) v, xs[i]? = some v → ∃ t, rows[rows.length - 1 - i]? = some t ∧ ∀ G, Gr q H' G → ItemAt G v (pl ++ [Sum.inl (((rows.length - 1 - i : Nat)) : Int)]) z t) → Q (.ref q) H'
theorem ok_items_of {f : Addr} {fd : FuncData} (D : Df K mg "items_of" s_items_of f fd ["top"]) (T : Nms mg) : FnOk P w K mg base CX0 1 f fd ["top"] spItemsOf := by
  refine D.F.ok sc_items_of (fun vs H Q E h => ?_) (fun cdv A outer s H vs Q E hr h => ?_)
  · obtain ⟨a, p, pl, z, r, rows, rfl, _⟩ := h
    rfl
  · obtain ⟨a, p, pl, z, r, rows, rfl, ha, hp, hpl, hr0, hlen, q⟩ := h
    obtain ⟨r0, vs, rfl, er, al⟩ := hr0.tup
    have ln := al.len
    refine ⟨_, (pss_cons (ps_asg (pv 0) (pg_tup (by rfl) (pgs_cons (pg_name (i := 1) sc_items_of.nd rfl (.inr rfl)) (pgs_cons (pg_name (i := 2) sc_items_of.nd rfl (.inr rfl)) (pgs_cons (pg_name (i := 3) sc_items_of.nd rfl (.inr rfl)) pgs_nil)))))
      (pss_one (ps_ret (pe_lc (own := [("index", 4)]) (g := (gName 4)) (tt := tYes) rfl sc_items_of.nd (pi_range3 (by rfl) T.n_range (pa_cons (pe_op op_sub (pe_callB call_len_seq (by rfl) T.n_len (by decide +kernel) (pa_cons (pv 3) pa_nil)) pe_int) (pa_cons (pe_un un_neg pe_int) (pa_cons (pe_un un_neg pe_int) pa_nil)))) (blkOk_by (own := [("index", 4)]) (N := N_items_of) (sc := defScope s_items_of) (by decide +kernel)) (fun _ _ _ _ _ => (pg_name (i := 4) sc_items_of.nd rfl (.inl rfl))) (fun _ _ _ _ _ => pts_nil) (fun _ _ _ _ _ => (pe_tup (pa_cons (pe_op (op_catAK K) (pv 1) (pe_tup (pa_cons (pv 4) pa_nil))) (pa_cons (pv 2) (pa_cons (pe_ix (ix_tupK K) (pv 3) (pv 4) (fun _ _ => rfl)) pa_nil))))))))), ?_⟩
    have hS : ∀ n : Nat, n ≤ 1000 → n ≤ sizeLine := fun n h => Nat.le_trans h (by decide)
    refine ⟨.ref a, rfl, a, _, rfl, .inl (.inl ha), rfl, ?_⟩
    have rg : RgC ((vs.length : Int) - 1) (-1) (-1) vs.length := by
      have := RgC.neg (i := (vs.length : Int) - 1) (j := -1) (by omega) (by omega) (by omega) (by omega)
      rw [show ((vs.length : Int) - 1 - -1).toNat = vs.length by omega] at this
      exact this
    refine ⟨_, _, rfl, _, _, rfl, _, _, rfl, rfl, ?_⟩
    refine ⟨.ref r0, rfl, r0, vs, rfl, .inr (.inl (.inl er)), _, _, rfl, rfl, 1, rfl, 1, rfl, (vs.length : Int) - 1, -1, -1, vs.length, rfl, rg, fun Da nD => ?_⟩
    refine lc_stay (walk_rangeC (lo := (vs.length : Int) - 1) (c := -1) (n := vs.length)) (fun i x => x = .int ((vs.length - 1 - i : Nat) : Int)) (fun i v G => ∃ t, rows[rows.length - 1 - i]? = some t ∧ ItemAt G v (pl ++ [Sum.inl (((rows.length - 1 - i : Nat)) : Int)]) z t) ?_ (fun _ _ => trivial) nD (by omega) (fun _ => rfl) ?_ ?_
    · rintro i G x G' hi ⟨rfl, rfl⟩
      refine ⟨rfl, ?_⟩
      show V.int ((vs.length : Int) - 1 + (i : Nat) * -1) = _
      rw [show ((vs.length : Int) - 1 + (i : Nat) * -1) = ((vs.length - 1 - i : Nat) : Int) by omega]
    · rintro i x H2 acc Q2 hi rfl sm eD hq
      have hi2 : rows.length - 1 - i < rows.length := by omega
      have et : rows[rows.length - 1 - i]? = some rows[rows.length - 1 - i] := List.getElem?_eq_getElem hi2
      obtain ⟨v, ev, hv⟩ := al.get et
      have hv2 := hv.same sm
      have hp2 := sm _ _ hp
      have er2 := sm _ _ er
      have fin : ∀ (G : Hp) (pp : Addr), Same H2 G → G pp = some (.tup ((pl ++ [Sum.inl (((rows.length - 1 - i : Nat)) : Int)]).map kV)) → pp ≠ Da → ∀ p3, G p3 = none → Q2 (.ref p3) (upd G p3 (.tup [.ref pp, .str z, v])) := by
        intro G pp sG epp npp p3 n3
        have s3 := same_new (o := .tup [.ref pp, .str z, v]) n3
        have n3D : p3 ≠ Da := (ne_of_none (sG _ _ eD) n3).symm
        refine hq _ _ (sG.trans s3) fun G2 gG => ⟨_, et, p3, pp, v, rfl, gG _ _ n3D upd_same, gG _ _ npp (s3 _ _ epp), hv2.grO (.lst eD) ((Same.gr (sG.trans s3)).trans gG)⟩
      refine ⟨.ref p, rfl, .int _, rfl, hS 1 (by decide), fun p1 n1 => ?_⟩
      have s1 := same_new (o := .tup [.int ((vs.length - 1 - i : Nat) : Int)]) n1
      have n1D : p1 ≠ Da := (ne_of_none eD n1).symm
      have ev' : vs[vs.length - 1 - i]? = some v := by rw [ln]; exact ev
      refine ⟨p, p1, pl.map kV, [.int ((vs.length - 1 - i : Nat) : Int)], rfl, rfl, .inl (.inl (s1 _ _ hp2)), .inl (.inl upd_same), ?_, fun e0 => ?_, fun _ e0 => (by cases e0), fun _ _ p2 n2 => ?_⟩
      · rw [List.length_map]
        exact hS _ (by show pl.length + 1 ≤ 1000; omega)
      · have e1 : pl = [] := List.map_eq_nil_iff.mp e0
        refine ⟨.str z, rfl, .ref r0, rfl, .int _, rfl, r0, vs, _, v, rfl, rfl, .inl (.inl (s1 _ _ er2)), atI_nat ev', hS 3 (by decide), fun p3 n3 => fin _ p1 s1 ?_ n1D p3 n3⟩
        rw [e1, ln.symm]
        exact upd_same
      · have s2 := same_new (o := .tup (pl.map kV ++ [.int ((vs.length - 1 - i : Nat) : Int)])) n2
        have n2D : p2 ≠ Da := (ne_of_none (s1 _ _ eD) n2).symm
        refine ⟨.str z, rfl, .ref r0, rfl, .int _, rfl, r0, vs, _, v, rfl, rfl, .inl (.inl (s2 _ _ (s1 _ _ er2))), atI_nat ev', hS 3 (by decide), fun p3 n3 => fin _ p2 (s1.trans s2) ?_ n2D p3 n3⟩
        rw [ln.symm, List.map_append]
        exact upd_same
    · intro H2 xs sm eD hx hal
      refine q Da xs H2 sm nD eD (by rw [hx, ln]) fun i v e => ?_
      obtain ⟨t, et, _⟩ := hal i v e H2 Gr.refl
      refine ⟨t, et, fun G gG => ?_⟩
      obtain ⟨t', et', h⟩ := hal i v e G gG
      rw [et] at et'
      cases et'
      exact h
end
end NW
namespace NW
open PySem PySem.Spec PyProof.Rows L2
open TL (tl)
open StX (pa_star)

def lvl (pl : List Key) : Nat := match pl with
  | Sum.inr _ :: r => r.length
  | pl => pl.length
section
variable {P : Program} {w : World} {K : PySem.W.Frag} {mg : Str → Option Value} {base : Heap}
def spLevel : Sp := fun vs H Q _ => ∃ (p : Addr) (pl : List Key), vs = [.ref p] ∧ H p = some (.tup (pl.map kV)) ∧ pl ≠ [] ∧ Q (.int (lvl pl)) H
theorem ok_level_of {f : Addr} {fd : FuncData} (D : Df K mg "level_of" s_level_of f fd ["place"]) (T : Nms mg) : FnOk P w K mg base CX0 1 f fd ["place"] spLevel := by
  refine D.F.ok sc_level_of (fun vs H Q E h => ?_) (fun cdv A outer s H vs Q E hr h => ?_)
  · obtain ⟨v, rows, rfl, _⟩ := h
    rfl
  · obtain ⟨p, pl, rfl, hp, hne, q⟩ := h
    refine ⟨_, (pss_cons (ps_if (pt_val (pe_callB call_isi (by rfl) T.n_isinstance (by decide +kernel) (pa_cons (pe_ix ix_tup (pv 0) pe_int (fun _ _ => rfl)) (pa_cons (pe_bltn (v := .ty "str") (by rfl) T.n_str (by decide +kernel) rfl) pa_nil))))
       (pss_one (ps_ret (pe_op op_sub (pe_callB call_len_seq (by rfl) T.n_len (by decide +kernel) (pa_cons (pv 0) pa_nil)) pe_int)))
       pss_nil)
      (pss_one (ps_ret (pe_callB call_len_seq (by rfl) T.n_len (by decide +kernel) (pa_cons (pv 0) pa_nil))))), ?_⟩
    cases pl with
    | nil => exact absurd rfl hne
    | cons k r =>
      cases k with
      | inl i =>
        refine ⟨.ref p, rfl, p, _, 0, .int i, rfl, rfl, .inl (.inl hp), atI_nat (j := 0) rfl, _, _, _, _, false, rfl, .ty "str", .base (.int i), kit_ty (by decide +kernel), false, rfl, iteF ?_⟩
        refine ⟨.ref p, rfl, p, _, rfl, .inr (.inl (.inl hp)), ?_⟩
        rw [List.length_map]
        exact q
      | inr z =>
        refine ⟨.ref p, rfl, p, _, 0, .str z, rfl, rfl, .inl (.inl hp), atI_nat (j := 0) rfl, _, _, _, _, true, rfl, .ty "str", .base (.str z), kit_ty (by decide +kernel), true, rfl, iteT ?_⟩
        refine ⟨.ref p, rfl, p, _, rfl, .inr (.inl (.inl hp)), _, _, rfl, rfl, ?_⟩
        have : (((Sum.inr z :: r : List Key).map kV).length : Int) - 1 = (r.length : Int) := by
          rw [List.length_map, List.length_cons]
          omega
        show Q (.int ((((Sum.inr z :: r : List Key).map kV).length : Int) - 1)) H
        rw [this]
        exact q
end
end NW
namespace NW
open PySem PySem.Spec PyProof.Rows L2
/-! ### max(list, default=d) of whole numbers -/
def mxD (d : Int) : List Int → Int
  | [] => d
  | n :: r => r.foldl max n
def rMaxDef (K : PySem.W.Frag) : List V → List V → Hp → VK → Prop := fun vs zs H Q => ∃ (a : Addr) (ns : List Int) (d : Int), vs = [.ref a] ∧ zs = [.int d] ∧ SqL K H a (ns.map V.int) ∧ Q (.int (mxD d ns)) H
theorem ints_dp {K : PySem.W.Frag} {H : Hp} : ∀ ns : List Int, DpAll K H (ns.map V.int) (ns.map PyData.int)
  | [] => .nil
  | n :: r => .cons (.int n) (ints_dp r)
theorem ints_depth : ∀ ns : List Int, PyData.depthAll (ns.map PyData.int) ≤ 1
  | [] => Nat.zero_le _
  | n :: r => by
    have := ints_depth r
    simp only [List.map_cons, PyData.depthAll, PyData.depth]
    omega
theorem cr_maxDef {X : Cx} (hc : X.calm = true) (hu : X.A.units + 64 < cLine) : CallRK X (.builtin "max") [Str.ofString "default"] (rMaxDef X.K) := by
  intro pins s σ H vs zs us ws Q I r rz h
  obtain ⟨a, ns, d, rfl, rfl, hs, q⟩ := h
  obtain rfl := Vals.ref1 r
  obtain ⟨w1, rfl, e1⟩ := vals1 rz
  obtain ⟨its, rv, hl, _⟩ := I.list hs
  obtain ⟨as, hr⟩ := Dp.readsAll I _ _ _ (ints_dp ns) rv
  have hd := ints_depth ns
  refine PySem.W.max_list_default (I.ok.hd hc) hl.isList hr ⟨fun x mx y my => ?_, fun x mx => ?_⟩ (by omega) (fun e h' tk hk => ?_) (fun y ys i v h' tk bs e hv hR hk => ?_)
  · obtain ⟨i, _, rfl⟩ := List.mem_map.mp mx
    obtain ⟨j, _, rfl⟩ := List.mem_map.mp my
    rfl
  · obtain ⟨i, _, rfl⟩ := List.mem_map.mp mx
    intro z
    cases z
  · have : ns = [] := List.map_eq_nil_iff.mp e
    subst this
    exact ⟨.int d, H, I.kept hk, e1, q⟩
  · cases ns with
    | nil => cases e
    | cons n r =>
      rw [List.map_cons] at e
      injection e with e2 e3
      subst e2 e3
      rw [PySem.W.maxD_ints] at hR
      refine ⟨.int (r.foldl max n), H, I.kept hk, ?_, q⟩
      cases hR
      exact ⟨_, rfl⟩
end NW
namespace NW
open PySem PySem.Spec PyProof.Rows L2
open TL (tl)
open StX (pa_star)
abbrev s_target_of : Stmt := topS 21
abbrev N_target_of : List Str := ["shape"]
theorem sc_target_of : FnScope N_target_of ["shape"] (defScope s_target_of) := ⟨rfl, rfl, rfl, by decide +kernel, rfl, by decide +kernel, by decide +kernel⟩
abbrev s_is_sure : Stmt := topS 22
abbrev N_is_sure : List Str := ["shape"]
theorem sc_is_sure : FnScope N_is_sure ["shape"] (defScope s_is_sure) := ⟨rfl, rfl, rfl, by decide +kernel, rfl, by decide +kernel, by decide +kernel⟩
/-- the base that a shape leads to, and how deep it lies -/
def Shp.tgt : Shp → Str
  | .base z => z
  | .sure s => s.tgt
  | .list s => s.tgt
def Shp.dep : Shp → Nat
  | .base _ => 0
  | .sure s => s.dep + 1
  | .list s => s.dep + 1
theorem okS_dep {l : List Str} : ∀ {s : Shp} {n : Nat} {o : Bool}, okS l n o s → s.dep ≤ n := by
  intro s
  induction s with
  | base z => intro n o _; exact Nat.zero_le _
  | sure s ih =>
    intro n o h
    cases n with
    | zero => exact h.elim
    | succ n => exact Nat.succ_le_succ (ih h.2)
  | list s ih =>
    intro n o h
    cases n with
    | zero => exact h.elim
    | succ n => exact Nat.succ_le_succ (ih (show okS l n false s from h))
section
variable {P : Program} {w : World} {K : PySem.W.Frag} {mg : Str → Option Value} {base : Heap}

def spTarget (n : Nat) : Sp := fun vs H Q _ => ∃ (v : V) (s : Shp), vs = [v] ∧ ShAt H v s ∧ s.dep ≤ n ∧ Q (.str s.tgt) H
theorem ok_target_of {f : Addr} {fd : FuncData} (D_target_of : Df K mg "target_of" s_target_of f fd ["shape"]) (T : Nms mg) : ∀ n : Nat, FnOk P w K mg base CX0 (n + 1) f fd ["shape"] (spTarget n) := by
  have tup : ∀ {H : Hp} {a : Addr} {xs : List V}, H a = some (.tup xs) → TyX K H (.ref a) (.type "tuple") := fun e => .base (.tup e)
  intro n
  induction n with
  | zero =>
    refine D_target_of.F.ok sc_target_of (fun vs H Q E h => ?_) (fun cdv A outer s H vs Q E hr h => ?_)
    · obtain ⟨v, s, rfl, _⟩ := h
      rfl
    · obtain ⟨v, s, rfl, hv, hd, q⟩ := h
      refine ⟨_, (pss_cons (ps_if (pt_val (pe_callB call_isi (by rfl) T.n_isinstance (by decide +kernel) (pa_cons (pv 0) (pa_cons (pe_bltn (v := .ty "tuple") (by rfl) T.n_tuple (by decide +kernel) rfl) pa_nil)))) (pss_one ps_never) pss_nil) (pss_one (ps_ret (pv 0)))), ?_⟩
      cases s with
      | base z =>
        obtain rfl : v = .str z := hv
        exact ⟨.str z, rfl, _, _, _, _, false, rfl, .ty "tuple", .base (.str z), kit_ty (by decide +kernel), false, rfl, iteF ⟨.str z, rfl, q⟩⟩
      | sure s => exact absurd hd (by show ¬ (s.dep + 1 ≤ 0); omega)
      | list s => exact absurd hd (by show ¬ (s.dep + 1 ≤ 0); omega)
  | succ n ih =>
    have G_target_of := ih
    refine D_target_of.F.ok sc_target_of (fun vs H Q E h => ?_) (fun cdv A outer s H vs Q E hr h => ?_)
    · obtain ⟨v, s, rfl, _⟩ := h
      rfl
    · obtain ⟨v, s, rfl, hv, hd, q⟩ := h
      refine ⟨_, (pss_cons (ps_if (pt_val (pe_callB call_isi (by rfl) T.n_isinstance (by decide +kernel) (pa_cons (pv 0) (pa_cons (pe_bltn (v := .ty "tuple") (by rfl) T.n_tuple (by decide +kernel) rfl) pa_nil))))
       (pss_one (ps_ret (pe_call G_target_of (hr.mono (by omega)) (by rfl) D_target_of.g D_target_of.F.kp D_target_of.b .nil pass0 (pa_cons (pe_ix ix_tup (pv 0) pe_int (fun _ _ => rfl)) pa_nil))))
       pss_nil)
      (pss_one (ps_ret (pv 0)))), ?_⟩
      cases s with
      | base z =>
        obtain rfl : v = .str z := hv
        exact ⟨.str z, rfl, _, _, _, _, false, rfl, .ty "tuple", .base (.str z), kit_ty (by decide +kernel), false, rfl, iteF ⟨.str z, rfl, q⟩⟩
      | sure s' =>
        obtain ⟨a, u, rfl, ha, hu⟩ := (show ∃ a u, v = .ref a ∧ H a = some (.tup [.str "sure", u]) ∧ ShAt H u s' from hv)
        exact ⟨.ref a, rfl, _, _, _, _, true, rfl, .ty "tuple", tup ha, kit_ty (by decide +kernel), true, rfl, iteT ⟨.ref a, rfl, a, _, 1, _, rfl, rfl, .inl (.inl ha), atI_nat (j := 1) rfl, u, s', rfl, hu, Nat.le_of_succ_le_succ hd, q⟩⟩
      | list s' =>
        obtain ⟨a, u, rfl, ha, hu⟩ := (show ∃ a u, v = .ref a ∧ H a = some (.tup [.str "list", u]) ∧ ShAt H u s' from hv)
        exact ⟨.ref a, rfl, _, _, _, _, true, rfl, .ty "tuple", tup ha, kit_ty (by decide +kernel), true, rfl, iteT ⟨.ref a, rfl, a, _, 1, _, rfl, rfl, .inl (.inl ha), atI_nat (j := 1) rfl, u, s', rfl, hu, Nat.le_of_succ_le_succ hd, q⟩⟩
def spIsSure : Sp := fun vs H Q _ => ∃ (v : V) (s : Shp), vs = [v] ∧ ShAt H v s ∧ Q (.bl s.isSure) H
theorem ok_is_sure {f : Addr} {fd : FuncData} (D : Df K mg "is_sure" s_is_sure f fd ["shape"]) (T : Nms mg) : FnOk P w K mg base CX0 1 f fd ["shape"] spIsSure := by
  refine D.F.ok sc_is_sure (fun vs H Q E h => ?_) (fun cdv A outer s H vs Q E hr h => ?_)
  · obtain ⟨v, s, rfl, _⟩ := h
    rfl
  · obtain ⟨v, s, rfl, hv, q⟩ := h
    refine ⟨_, (pss_one (ps_ret (pe_and (pe_callB call_isi (by rfl) T.n_isinstance (by decide +kernel) (pa_cons (pv 0) (pa_cons (pe_bltn (v := .ty "tuple") (by rfl) T.n_tuple (by decide +kernel) rfl) pa_nil))) (pe_one (pe_cmpR op_eq (pe_ix ix_tup (pv 0) pe_int (fun _ _ => rfl)) pe_str (nomark _)))))), ?_⟩
    cases s with
    | base z =>
      obtain rfl : v = .str z := hv
      exact ⟨.str z, rfl, _, _, _, _, false, rfl, .ty "tuple", .base (.str z), kit_ty (by decide +kernel), false, rfl, iteF q⟩
    | sure s' =>
      obtain ⟨a, u, rfl, ha, hu⟩ := (show ∃ a u, v = .ref a ∧ H a = some (.tup [.str "sure", u]) ∧ ShAt H u s' from hv)
      refine ⟨.ref a, rfl, _, _, _, _, true, rfl, .ty "tuple", .base (.tup ha), kit_ty (by decide +kernel), true, rfl, iteT ⟨.ref a, rfl, a, _, 0, _, rfl, rfl, .inl (.inl ha), atI_nat (j := 0) rfl, rfl, ?_⟩⟩
      rw [decide_eq_true rfl]
      exact q
    | list s' =>
      obtain ⟨a, u, rfl, ha, hu⟩ := (show ∃ a u, v = .ref a ∧ H a = some (.tup [.str "list", u]) ∧ ShAt H u s' from hv)
      refine ⟨.ref a, rfl, _, _, _, _, true, rfl, .ty "tuple", .base (.tup ha), kit_ty (by decide +kernel), true, rfl, iteT ⟨.ref a, rfl, a, _, 0, _, rfl, rfl, .inl (.inl ha), atI_nat (j := 0) rfl, rfl, ?_⟩⟩
      rw [decide_eq_false list_sure]
      exact q
end
end NW
namespace NW
open PySem PySem.Spec PyProof.Rows L2
open TL (tl)
open StX (pa_star)
abbrev s_Schema_target : Stmt := inClass (topS 69) 11
abbrev N_Schema_target : List Str := ["self", "base", "field"]
theorem sc_Schema_target : FnScope N_Schema_target ["self", "base", "field"] (defScope s_Schema_target) := ⟨rfl, rfl, rfl, by decide +kernel, rfl, by decide +kernel, by decide +kernel⟩
abbrev s_Schema_sure : Stmt := inClass (topS 69) 12
abbrev N_Schema_sure : List Str := ["self", "base", "field"]
theorem sc_Schema_sure : FnScope N_Schema_sure ["self", "base", "field"] (defScope s_Schema_sure) := ⟨rfl, rfl, rfl, by decide +kernel, rfl, by decide +kernel, by decide +kernel⟩section
variable {P : Program} {w : World} {K : PySem.W.Frag} {mg : Str → Option Value} {base : Heap}

theorem FdsOf.ok {ks : List KRow} {fs : List FRow} {us : List URow} {root z : Str} {fds : List Fld} {fl : Fld} (ok : SchOk ks fs us root) (h : FdsOf ks fs z fds) (m : fl ∈ fds) : okS (bsOf ks fs us) 4 false fl.2.2 := by
  rcases h with ⟨k, mk, _, rfl⟩ | ⟨_, f, mf, _, rfl⟩ | ⟨_, _, rfl⟩
  · exact (ok.kd k mk).sh fl m
  · exact (ok.fd f mf).sh fl m
  · cases m
def spVia (r : Shp → V) (K : PySem.W.Frag) (C CN CF : Addr) : Sp := fun vs H Q E => ∃ (x : Addr) (y u : V) (ks : List KRow) (fs : List FRow) (us : List URow) (root : Str), vs = [.ref x, y, u] ∧ BuiltAt C H x ks fs us root ∧ SchOk ks fs us root ∧
  ((∃ z, y = .str z ∧ z ∈ bsOf ks fs us ∧ ∀ (fds : List Fld), FdsOf ks fs z fds →
      ((∃ g, u = .str g ∧ ((∃ fl ∈ fds, fl.1 = g ∧ ∀ H', Same H H' → Q (r fl.2.2) H') ∨ (g ∉ fds.map (·.1) ∧ ∀ d H', Same H H' → H d = none → H' d = some (.xd [("field", u), ("base", y)]) → E (.ref CF) (some d) H'))) ∨
        ((∃ t, (∀ H', Same H H' → TyX K H' u t) ∧ PySem.W.kitOne K t (.type "str") = some false) ∧ ∀ d H', Same H H' → H d = none → H' d = some (.xd [("field", u), ("base", y)]) → E (.ref CF) (some d) H'))) ∨
    (((∃ z, y = .str z ∧ z ∉ bsOf ks fs us) ∨ ∃ t, TyX K H y t ∧ PySem.W.kitOne K t (.type "str") = some false) ∧ ∀ d H', Same H H' → H d = none → H' d = some (.xd [("base", y)]) → E (.ref CN) (some d) H'))

theorem ok_target {f f1 f2 C CN CF : Addr} {fd fd1 fd2 : FuncData} (F : Fun K "target" "Schema.target" s_Schema_target f fd) (M : Mt K C "shape_of" "Schema.shape_of" s_Schema_shape_of f1 fd1 ["self", "base", "field"]) (G_shape_of : FnOk P w K mg base (L2N.CX P w) 5 f1 fd1 ["self", "base", "field"] (spShapeOf K C CN CF))
    (D_target_of : Df K mg "target_of" s_target_of f2 fd2 ["shape"]) (G_target_of : FnOk P w K mg base CX0 5 f2 fd2 ["shape"] (spTarget 4)) (T : Nms mg) (L : ClT K C) : FnOk P w K mg base (L2N.CX P w) 6 f fd ["self", "base", "field"] (spVia (fun s => .str s.tgt) K C CN CF) := by
  refine okC F sc_Schema_target (fun vs H Q E h => ?_) (fun cdv A outer s H vs Q E hr h => ?_)
  · obtain ⟨x, y, u, ks, fs, us, root, rfl, _⟩ := h
    rfl
  · obtain ⟨x, y, u, ks, fs, us, root, rfl, Bt, ok, q⟩ := h
    refine ⟨_, (pss_one (ps_ret (pe_call G_target_of (hr.mono (by decide)) (by rfl) D_target_of.g D_target_of.F.kp D_target_of.b .nil pass0 (pa_cons (pe_methX (pv 0) L.cl M.m G_shape_of (hr.mono (by decide)) M.b (fun σ => L2N.passAt (L2N.takes_of rfl rfl rfl rfl) σ) (pa_cons (pv 1) (pa_cons (pv 2) pa_nil))) pa_nil)))), ?_⟩
    have Bt' := Bt
    obtain ⟨dx0, kt, ft, ut, ks', fs', us', hx, _⟩ := Bt'
    refine ⟨.ref x, rfl, x, dx0, _, rfl, hx, lkn _ _ _ _ (by decide +kernel) (by decide +kernel) (by decide +kernel) (by decide +kernel), y, rfl, u, rfl, x, y, u, ks, fs, us, root, rfl, Bt, ok, ?_⟩
    rcases q with ⟨z, rfl, hz, q⟩ | ⟨hbad, q⟩
    · refine .inl ⟨z, rfl, hz, fun fds hf => ?_⟩
      rcases q fds hf with ⟨g, rfl, ⟨fl, fm, e, q1⟩ | ⟨ng, q2⟩⟩ | ⟨hu, q3⟩
      · exact .inl ⟨g, rfl, .inl ⟨fl, fm, e, fun H' s1 sh => ⟨fl.2.1, fl.2.2, rfl, sh, okS_dep (hf.ok ok fm), q1 H' s1⟩⟩⟩
      · exact .inl ⟨g, rfl, .inr ⟨ng, q2⟩⟩
      · exact .inr ⟨hu, q3⟩
    · exact .inr ⟨hbad, q⟩

theorem ok_sure {f f1 f2 C CN CF : Addr} {fd fd1 fd2 : FuncData} (F : Fun K "sure" "Schema.sure" s_Schema_sure f fd) (M : Mt K C "shape_of" "Schema.shape_of" s_Schema_shape_of f1 fd1 ["self", "base", "field"]) (G_shape_of : FnOk P w K mg base (L2N.CX P w) 5 f1 fd1 ["self", "base", "field"] (spShapeOf K C CN CF))
    (D_is_sure : Df K mg "is_sure" s_is_sure f2 fd2 ["shape"]) (G_is_sure : FnOk P w K mg base CX0 1 f2 fd2 ["shape"] (spIsSure)) (T : Nms mg) (L : ClT K C) : FnOk P w K mg base (L2N.CX P w) 6 f fd ["self", "base", "field"] (spVia (fun s => .bl s.isSure) K C CN CF) := by
  refine okC F sc_Schema_sure (fun vs H Q E h => ?_) (fun cdv A outer s H vs Q E hr h => ?_)
  · obtain ⟨x, y, u, ks, fs, us, root, rfl, _⟩ := h
    rfl
  · obtain ⟨x, y, u, ks, fs, us, root, rfl, Bt, ok, q⟩ := h
    refine ⟨_, (pss_one (ps_ret (pe_call G_is_sure (hr.mono (by decide)) (by rfl) D_is_sure.g D_is_sure.F.kp D_is_sure.b .nil pass0 (pa_cons (pe_methX (pv 0) L.cl M.m G_shape_of (hr.mono (by decide)) M.b (fun σ => L2N.passAt (L2N.takes_of rfl rfl rfl rfl) σ) (pa_cons (pv 1) (pa_cons (pv 2) pa_nil))) pa_nil)))), ?_⟩
    have Bt' := Bt
    obtain ⟨dx0, kt, ft, ut, ks', fs', us', hx, _⟩ := Bt'
    refine ⟨.ref x, rfl, x, dx0, _, rfl, hx, lkn _ _ _ _ (by decide +kernel) (by decide +kernel) (by decide +kernel) (by decide +kernel), y, rfl, u, rfl, x, y, u, ks, fs, us, root, rfl, Bt, ok, ?_⟩
    rcases q with ⟨z, rfl, hz, q⟩ | ⟨hbad, q⟩
    · refine .inl ⟨z, rfl, hz, fun fds hf => ?_⟩
      rcases q fds hf with ⟨g, rfl, ⟨fl, fm, e, q1⟩ | ⟨ng, q2⟩⟩ | ⟨hu, q3⟩
      · exact .inl ⟨g, rfl, .inl ⟨fl, fm, e, fun H' s1 sh => ⟨fl.2.1, fl.2.2, rfl, sh, q1 H' s1⟩⟩⟩
      · exact .inl ⟨g, rfl, .inr ⟨ng, q2⟩⟩
      · exact .inr ⟨hu, q3⟩
    · exact .inr ⟨hbad, q⟩

end
end NW
namespace NW
open PySem PySem.Spec PyProof.Rows L2
open TL (tl)
open StX (pa_star)
abbrev s_inner_base : Stmt := topS 31
abbrev N_inner_base : List Str := ["schema", "base", "statement"]
theorem sc_inner_base : FnScope N_inner_base ["schema", "base", "statement"] (defScope s_inner_base) := ⟨rfl, rfl, rfl, by decide +kernel, rfl, by decide +kernel, by decide +kernel⟩
theorem passA {X : Cx} : Passes (L2N.CX X.prog X.w) X E0 := fun _ _ _ _ _ _ I c => by
  obtain ⟨_, _, _, _, _, _, _, _, _, _, _, _, _, _, _, _, z⟩ := L2N.XE.of_call (W := fun _ _ _ _ => False) I (fun _ _ _ e => e) c
  exact z.elim
/-- the base of the rows inside a statement at z -/
def InB (ks : List KRow) (fs : List FRow) (z : Str) : St → Str → Prop
  | .field f _ _, z' => ∀ fds, FdsOf ks fs z fds → ∃ fl ∈ fds, fl.1 = f ∧ z' = fl.2.2.tgt
  | .on b _, z' => z' = b
  | _, z' => z' = z
section
variable {P : Program} {w : World} {K : PySem.W.Frag} {mg : Str → Option Value} {base : Heap}
def spInnerBase (C : Addr) : Sp := fun vs H Q _ => ∃ (x : Addr) (z : Str) (v : V) (t : St) (ks : List KRow) (fs : List FRow) (us : List URow) (root z' : Str), vs = [.ref x, .str z, v] ∧ BuiltAt C H x ks fs us root ∧ SchOk ks fs us root ∧ z ∈ bsOf ks fs us ∧ StAt H v t ∧ InB ks fs z t z' ∧ ∀ H', Same H H' → Q (.str z') H'
theorem ok_inner_base {f f1 C CN CF : Addr} {fd fd1 : FuncData} (D : Df K mg "inner_base" s_inner_base f fd ["schema", "base", "statement"]) (M_target : Mt K C "target" "Schema.target" s_Schema_target f1 fd1 ["self", "base", "field"])
    (G_target : FnOk P w K mg base (L2N.CX P w) 6 f1 fd1 ["self", "base", "field"] (spVia (fun s => .str s.tgt) K C CN CF)) (T : Nms mg) (L : ClT K C) : FnOk P w K mg base CX0 7 f fd ["schema", "base", "statement"] (spInnerBase C) := by
  refine D.F.ok sc_inner_base (fun vs H Q E h => ?_) (fun cdv A outer s H vs Q E hr h => ?_)
  · obtain ⟨x, z, v, t, ks, fs, us, root, z', rfl, _⟩ := h
    rfl
  · obtain ⟨x, z, v, t, ks, fs, us, root, z', rfl, Bt, ok, hz, hv, hi, q⟩ := h
    refine ⟨_, (pss_cons (ps_if (pt_cmpR op_eq (pe_ix ix_tup (pv 2) pe_int (fun _ _ => rfl)) pe_str (nomark _))
       (pss_one (ps_ret (pe_meth (pv 0) L.cl M_target.m G_target (hr.mono (by decide)) M_target.b .nil passA (pa_cons (pv 1) (pa_cons (pe_ix ix_tup (pv 2) pe_int (fun _ _ => rfl)) pa_nil)))))
       pss_nil)
      (pss_cons (ps_if (pt_cmpR op_eq (pe_ix ix_tup (pv 2) pe_int (fun _ _ => rfl)) pe_str (nomark _))
       (pss_one (ps_ret (pe_ix ix_tup (pv 2) pe_int (fun _ _ => rfl))))
       pss_nil)
      (pss_one (ps_ret (pv 1))))), ?_⟩
    have nf : ∀ {x : Str}, x ≠ "field" → ¬ (V.str x = V.str "field") := fun h e => h (V.str.inj e)
    have no : ∀ {x : Str}, x ≠ "on" → ¬ (V.str x = V.str "on") := fun h e => h (V.str.inj e)
    have s0 : Same H H := fun _ _ e => e
    obtain ⟨dx, kt', ft', ut', _, _, _, hx, _⟩ := id Bt
    cases hv with
    | field e r =>
      have hi' : ∀ fds, FdsOf ks fs z fds → ∃ fl ∈ fds, fl.1 = _ ∧ z' = fl.2.2.tgt := hi
      refine ⟨.ref _, rfl, _, _, 0, _, rfl, rfl, .inl (.inl e), atI_nat (j := 0) rfl, rfl, true, blT rfl, iteT ?_⟩
      refine ⟨.ref x, rfl, x, dx, _, rfl, hx, lkn _ _ _ _ (by decide +kernel) (by decide +kernel) (by decide +kernel) (by decide +kernel), .str z, rfl, .ref _, rfl, _, _, 1, _, rfl, rfl, .inl (.inl e), atI_nat (j := 1) rfl, ?_⟩
      refine ⟨x, .str z, .str _, ks, fs, us, root, rfl, Bt, ok, .inl ⟨z, rfl, hz, fun fds hf => ?_⟩⟩
      obtain ⟨fl, mfl, e1, e2⟩ := hi' fds hf
      exact .inl ⟨_, rfl, .inl ⟨fl, mfl, e1, fun H' s => by
        have := q H' s
        rw [e2] at this
        exact this⟩⟩
    | kind e =>
      obtain rfl := (show z' = z from hi)
      exact ⟨.ref _, rfl, _, _, 0, _, rfl, rfl, .inl (.inl e), atI_nat (j := 0) rfl, rfl, false, blF (nf (by decide +kernel)), iteF ⟨.ref _, rfl, _, _, 0, _, rfl, rfl, .inl (.inl e), atI_nat (j := 0) rfl, rfl, false, blF (no (by decide +kernel)), iteF ⟨.str _, rfl, q H s0⟩⟩⟩
    | on e r =>
      obtain rfl := (show z' = _ from hi)
      exact ⟨.ref _, rfl, _, _, 0, _, rfl, rfl, .inl (.inl e), atI_nat (j := 0) rfl, rfl, false, blF (nf (by decide +kernel)), iteF ⟨.ref _, rfl, _, _, 0, _, rfl, rfl, .inl (.inl e), atI_nat (j := 0) rfl, rfl, true, blT rfl, iteT ⟨.ref _, rfl, _, _, 1, _, rfl, rfl, .inl (.inl e), atI_nat (j := 1) rfl, q H s0⟩⟩⟩
    | part e =>
      obtain rfl := (show z' = z from hi)
      exact ⟨.ref _, rfl, _, _, 0, _, rfl, rfl, .inl (.inl e), atI_nat (j := 0) rfl, rfl, false, blF (nf (by decide +kernel)), iteF ⟨.ref _, rfl, _, _, 0, _, rfl, rfl, .inl (.inl e), atI_nat (j := 0) rfl, rfl, false, blF (no (by decide +kernel)), iteF ⟨.str _, rfl, q H s0⟩⟩⟩
    | iff e r =>
      obtain rfl := (show z' = z from hi)
      exact ⟨.ref _, rfl, _, _, 0, _, rfl, rfl, .inl (.inl e), atI_nat (j := 0) rfl, rfl, false, blF (nf (by decide +kernel)), iteF ⟨.ref _, rfl, _, _, 0, _, rfl, rfl, .inl (.inl e), atI_nat (j := 0) rfl, rfl, false, blF (no (by decide +kernel)), iteF ⟨.str _, rfl, q H s0⟩⟩⟩
end
end NW
namespace NW
open PySem PySem.Spec PyProof.Rows L2
open TL (tl)
open StX (pa_star)
abbrev s_has_members : Stmt := topS 26
abbrev N_has_members : List Str := ["schema", "base"]
theorem sc_has_members : FnScope N_has_members ["schema", "base"] (defScope s_has_members) := ⟨rfl, rfl, rfl, by decide +kernel, rfl, by decide +kernel, by decide +kernel⟩
section
variable {P : Program} {w : World} {K : PySem.W.Frag} {mg : Str → Option Value} {base : Heap}
def spHasMembers (C : Addr) : Sp := fun vs H Q _ => ∃ (x : Addr) (z : Str) (ks : List KRow) (fs : List FRow) (us : List URow) (root : Str), vs = [.ref x, .str z] ∧ BuiltAt C H x ks fs us root ∧ ks.length ≤ 6 ∧ fs.length ≤ 3 ∧ us.length ≤ 3 ∧ ∀ H', Same H H' → Q (.bl (decide (z ∈ bsOf ks fs us ∧ z ∉ [("number" : Str), "text"]))) H'
theorem ok_has_members {f f1 C : Addr} {fd fd1 : FuncData} (D : Df K mg "has_members" s_has_members f fd ["schema", "base"]) (mC : InM K C f1) (bC : Binds K fd1 ["self", "base"] []) (G_contains : FnOk P w K mg base CX0 2 f1 fd1 ["self", "base"] (spContains K C)) (T : Nms mg) (Cs : Cst K mg) : FnOk P w K mg base CX0 3 f fd ["schema", "base"] (spHasMembers C) := by
  obtain ⟨la, g_L, hL⟩ := Cs.LEAVES
  refine D.F.ok sc_has_members (fun vs H Q E h => ?_) (fun cdv A outer s H vs Q E hr h => ?_)
  · obtain ⟨x, z, ks, fs, us, root, rfl, _⟩ := h
    rfl
  · obtain ⟨x, z, ks, fs, us, root, rfl, Bt, k1, f1', u1, q⟩ := h
    have hu := hu_of hr
    refine ⟨_, (pss_one (ps_ret (pe_and (pe_cmpR (op_in_own mC G_contains (hr.mono (by decide)) bC .nil pass0) (pv 1) (pv 0) (by rfl)) (pe_one (pe_cmpR op_notIn_seq (pv 1) (pe_glob (v := .ref la) (by rfl) g_L rfl) (by rfl)))))), ?_⟩
    obtain ⟨dx, kt', ft', ut', _, _, _, hx, _⟩ := id Bt
    refine ⟨.str z, rfl, .ref x, rfl, x, dx, _, rfl, hx, x, .str z, ks, fs, us, root, rfl, Bt, k1, f1', u1, .inl ⟨z, rfl, fun H' s => ⟨_, rfl, _, rfl, ite2 (fun h1 => ?_) (fun h1 => ?_)⟩⟩⟩
    · have h1' : z ∈ bsOf ks fs us := of_decide_eq_true h1
      refine ⟨.str z, rfl, la, _, rfl, .inr (hL H'), rfl, rfl, ?_⟩
      have := q H' s
      rw [show decide (z ∈ bsOf ks fs us ∧ z ∉ [("number" : Str), "text"]) = !inV (.str z) ([("number" : Str), "text"].map V.str) from by
        rw [inV_strs, Bool.eq_iff_iff]
        simp only [decide_eq_true_eq, Bool.not_eq_true', decide_eq_false_iff_not]
        exact ⟨fun h => h.2, fun h => ⟨h1', h⟩⟩] at this
      exact this
    · have h1' : ¬ z ∈ bsOf ks fs us := of_decide_eq_false (by simpa using h1)
      have := q H' s
      rw [decide_eq_false fun h => h1' h.1] at this
      exact this
end
end NW
namespace NW
open PySem PySem.Spec PyProof.Rows L2
open TL (tl)
open StX (pa_star)
abbrev s_is_field : Stmt := topS 29
abbrev N_is_field : List Str := ["schema", "base", "statement", "name", "key", "rows"]
theorem sc_is_field : FnScope N_is_field ["schema", "base", "statement"] (defScope s_is_field) := ⟨rfl, rfl, rfl, by decide +kernel, rfl, by decide +kernel, by decide +kernel⟩
section
variable {P : Program} {w : World} {K : PySem.W.Frag} {mg : Str → Option Value} {base : Heap}
/-- a field statement that fits -/
def spIsField (C : Addr) : Sp := fun vs H Q _ => ∃ (x a : Addr) (z f key : Str) (r : V) (rows : List St) (ks : List KRow) (fs : List FRow) (us : List URow) (root : Str), vs = [.ref x, .str z, .ref a] ∧ BuiltAt C H x ks fs us root ∧ SchOk ks fs us root ∧ z ∈ bsOf ks fs us ∧ H a = some (.tup [.str "field", .str f, .str key, r]) ∧ RowAt H r rows ∧
  rows.length ≤ 6 ∧ IsName key ∧ (∀ fds, FdsOf ks fs z fds → ∃ fl ∈ fds, fl.1 = f ∧ (rows = [] ∨ fl.2.2.tgt ∉ [("number" : Str), "text"])) ∧ ∀ H', Same H H' → Q (.bl true) H'
theorem ok_is_field {f f1 f2 f3 f4 f5 C CN CF : Addr} {fd fd1 fd2 fd3 fd4 fd5 : FuncData} {t : Tok} (D : Df K mg "is_field" s_is_field f fd ["schema", "base", "statement"])
    (D_is_key : Df K mg "is_key" s_is_key f1 fd1 ["name", "table"]) (G_is_key : FnOk P w K mg base CX0 1 f1 fd1 ["name", "table"] (spIsKey K))
    (D_is_name : Df K mg "is_name" s_is_name f2 fd2 ["word"]) (G_is_name : FnOk P w K mg base CX0 1 f2 fd2 ["word"] spIsName)
    (D_is_rows : Df K mg "is_rows" s_is_rows f3 fd3 ["rows"]) (G_is_rows : FnOk P w K mg base CX0 1 f3 fd3 ["rows"] spIsRows)
    (M_fields : Mt K C "fields" "Schema.fields" s_Schema_fields f4 fd4 ["self", "base"]) (G_fields : FnOk P w K mg base (L2N.CX P w) 5 f4 fd4 ["self", "base"] (spFields K C CN))
    (M_target : Mt K C "target" "Schema.target" s_Schema_target f5 fd5 ["self", "base", "field"]) (G_target : FnOk P w K mg base (L2N.CX P w) 6 f5 fd5 ["self", "base", "field"] (spVia (fun s => .str s.tgt) K C CN CF))
    (T : Nms mg) (Cs : Cst K mg) (L : ClT K C) : FnOk P w K mg base CX0 7 f fd ["schema", "base", "statement"] (spIsField C) := by
  obtain ⟨la, g_L, hL⟩ := Cs.LEAVES
  refine D.F.ok sc_is_field (fun vs H Q E h => ?_) (fun cdv A outer s H vs Q E hr h => ?_)
  · obtain ⟨x, a, z, f, key, r, rows, ks, fs, us, root, rfl, _⟩ := h
    rfl
  · obtain ⟨x, a, z, fn, key, r, rows, ks, fs, us, root, rfl, Bt, ok, hz, ha, hrw, hl, hk, hf, q⟩ := h
    have hu := hu_of hr
    refine ⟨_, (pss_cons (ps_asg (pe_slice sl_tup (pv 2) (po_some pe_int) po_none) (pg_tup (by rfl) (pgs_cons (pg_name (i := 3) sc_is_field.nd rfl (.inl rfl)) (pgs_cons (pg_name (i := 4) sc_is_field.nd rfl (.inl rfl)) (pgs_cons (pg_name (i := 5) sc_is_field.nd rfl (.inl rfl)) pgs_nil)))))
      (pss_cons (ps_if (PW.pt (pw_or (pt_not (pt_val (pe_call G_is_key (hr.mono (by decide)) (by rfl) D_is_key.g D_is_key.F.kp D_is_key.b .nil pass0 (pa_cons (pv 3) (pa_cons (pe_meth (pv 0) L.cl M_fields.m G_fields (hr.mono (by decide)) M_fields.b .nil passA (pa_cons (pv 1) pa_nil)) pa_nil))))) (pw_or (pt_not (pt_val (pe_call G_is_name (hr.mono (by decide)) (by rfl) D_is_name.g D_is_name.F.kp D_is_name.b .nil pass0 (pa_cons (pv 4) pa_nil)))) (pw_or1 (pt_not (pt_val (pe_call G_is_rows (hr.mono (by decide)) (by rfl) D_is_rows.g D_is_rows.F.kp D_is_rows.b .nil pass0 (pa_cons (pv 5) pa_nil))))))))
       (pss_one (ps_ret pe_bl))
       pss_nil)
      (pss_one (ps_ret (pe_or (pe_cmpR op_eq (pe_callB call_len_seq (by rfl) T.n_len (by decide +kernel) (pa_cons (pv 5) pa_nil)) pe_int (nomark _)) (pe_one (pe_cmpR op_notIn_seq (pe_meth (pv 0) L.cl M_target.m G_target (hr.mono (by decide)) M_target.b .nil passA (pa_cons (pv 1) (pa_cons (pv 3) pa_nil))) (pe_glob (v := .ref la) (by rfl) g_L rfl) (by rfl)))))))), ?_⟩
    obtain ⟨dx, kt', ft', ut', _, _, _, hx, _⟩ := id Bt
    refine ⟨.ref a, rfl, 1, rfl, a, _, rfl, .inl (.inl ha), (show ¬ (HT.sIx 4 0 (some 1) = 0 ∧ HT.sIx 4 4 none = 4) by decide), fun p np => ?_⟩
    have s1 := same_new (o := .tup [.str fn, .str key, r]) np
    refine ⟨p, [.str fn, .str key, r], rfl, .inl (.inl upd_same), rfl, _, _, rfl, _, _, rfl, _, _, rfl, rfl, ?_⟩
    have e1 : cutV [.str "field", .str fn, .str key, r] (some 1) none = [.str fn, .str key, r] := rfl
    rw [e1]
    generalize upd H p (.tup [.str fn, .str key, r]) = H1 at s1
    have Bt1 := Bt.same s1
    have hrw1 := hrw.same s1
    refine ⟨.str fn, rfl, .ref x, rfl, x, dx, _, rfl, s1 _ _ hx, lkn _ _ _ _ (by decide +kernel) (by decide +kernel) (by decide +kernel) (by decide +kernel), .str z, rfl, x, .str z, ks, fs, us, root, rfl, Bt1, ok, .inl ⟨z, rfl, hz, fun fds l p2 H2 hfd pl so s2 n2 e2 => ?_⟩⟩
    obtain ⟨fl, mfl, e3, e4⟩ := hf fds hfd
    have hm : fn ∈ l := pl.mem_iff.mpr (List.mem_map.mpr ⟨fl, mfl, e3⟩)
    refine ⟨.str fn, p2, rfl, .inl ⟨fn, rfl, .inl ⟨l, .inl (SqL.of e2), ?_⟩⟩⟩
    rw [decide_eq_true hm]
    refine ⟨true, rfl, iteF ⟨.str key, rfl, key, rfl, hk, fun H3 s3 => ⟨true, rfl, iteF ⟨r, rfl, r, rows, rfl, (hrw1.same s2).same s3, ?_⟩⟩⟩⟩
    rw [decide_eq_true hl]
    refine ⟨true, rfl, iteF ?_⟩
    have s13 := s1.trans (s2.trans s3)
    obtain ⟨r0, vs, rfl, er, al⟩ := (hrw.same s13).tup
    refine ⟨.ref r0, rfl, r0, vs, rfl, .inr (.inl (.inl er)), rfl, _, rfl, ite2 (fun h0 => q _ s13) (fun h0 => ?_)⟩
    have hne : rows ≠ [] := fun h => by
      rw [h] at al
      have := al.len
      rw [this] at h0
      exact h0 (decide_eq_true rfl)
    refine ⟨.ref x, rfl, x, dx, _, rfl, s13 _ _ hx, lkn _ _ _ _ (by decide +kernel) (by decide +kernel) (by decide +kernel) (by decide +kernel), .str z, rfl, .str fn, rfl, x, .str z, .str fn, ks, fs, us, root, rfl, Bt.same s13, ok, .inl ⟨z, rfl, hz, fun fds hfd => ?_⟩⟩
    obtain ⟨fl, mfl, e3, e4⟩ := hf fds hfd
    refine .inl ⟨fn, rfl, .inl ⟨fl, mfl, e3, fun H4 s4 => ⟨la, _, rfl, .inr (hL H4), rfl, rfl, ?_⟩⟩⟩
    have : (!inV (.str fl.2.2.tgt) ([("number" : Str), "text"].map V.str)) = true := by
      rw [inV_strs, decide_eq_false (e4.resolve_left hne)]
      rfl
    show Q (.bl (!inV (.str fl.2.2.tgt) ([("number" : Str), "text"].map V.str))) H4
    rw [this]
    exact q _ (s13.trans s4)
end
end NW
namespace NW
open PySem PySem.Spec PyProof.Rows L2
open TL (tl)
open StX (pa_star)
abbrev s_is_statement : Stmt := topS 28
abbrev N_is_statement : List Str := ["schema", "parts", "base", "statement", "word"]
theorem sc_is_statement : FnScope N_is_statement ["schema", "parts", "base", "statement"] (defScope s_is_statement) := ⟨rfl, rfl, rfl, by decide +kernel, rfl, by decide +kernel, by decide +kernel⟩
section
variable {P : Program} {w : World} {K : PySem.W.Frag} {mg : Str → Option Value} {base : Heap}
def StFit (ks : List KRow) (fs : List FRow) (us : List URow) (kvs : List (Key × V)) (z : Str) : St → Prop
  | .field f k rows => rows.length ≤ 6 ∧ IsName k ∧ ∀ fds, FdsOf ks fs z fds → ∃ fl ∈ fds, fl.1 = f ∧ (rows = [] ∨ fl.2.2.tgt ∉ [("number" : Str), "text"])
  | .kind k => IsName k
  | .on b rows => b ∈ bsOf ks fs us ∧ b ∉ [("number" : Str), "text"] ∧ rows.length ≤ 6
  | .part p => (valV kvs (Sum.inr p)).isSome = true
  | .iff f _ rows => IsName f ∧ rows.length ≤ 6
/-- a statement that fits -/
def spIsStatement (C : Addr) : Sp := fun vs H Q _ => ∃ (x pa : Addr) (kvs : List (Key × V)) (z : Str) (v : V) (t : St) (ks : List KRow) (fs : List FRow) (us : List URow) (root : Str), vs = [.ref x, .ref pa, .str z, v] ∧ BuiltAt C H x ks fs us root ∧ SchOk ks fs us root ∧ z ∈ bsOf ks fs us ∧ H pa = some (.dK kvs) ∧ StAt H v t ∧ StFit ks fs us kvs z t ∧ ∀ H', Same H H' → Q (.bl true) H'
theorem ok_is_statement {f f1 f2 f3 f4 f5 C : Addr} {fd fd1 fd2 fd3 fd4 fd5 : FuncData} (D : Df K mg "is_statement" s_is_statement f fd ["schema", "parts", "base", "statement"])
    (D_is_key : Df K mg "is_key" s_is_key f1 fd1 ["name", "table"]) (G_is_key : FnOk P w K mg base CX0 1 f1 fd1 ["name", "table"] (spIsKey K))
    (D_is_name : Df K mg "is_name" s_is_name f2 fd2 ["word"]) (G_is_name : FnOk P w K mg base CX0 1 f2 fd2 ["word"] spIsName)
    (D_is_rows : Df K mg "is_rows" s_is_rows f3 fd3 ["rows"]) (G_is_rows : FnOk P w K mg base CX0 1 f3 fd3 ["rows"] spIsRows)
    (D_is_field : Df K mg "is_field" s_is_field f4 fd4 ["schema", "base", "statement"]) (G_is_field : FnOk P w K mg base CX0 7 f4 fd4 ["schema", "base", "statement"] (spIsField C))
    (D_has_members : Df K mg "has_members" s_has_members f5 fd5 ["schema", "base"]) (G_has_members : FnOk P w K mg base CX0 3 f5 fd5 ["schema", "base"] (spHasMembers C)) (T : Nms mg) : FnOk P w K mg base CX0 8 f fd ["schema", "parts", "base", "statement"] (spIsStatement C) := by
  refine D.F.ok sc_is_statement (fun vs H Q E h => ?_) (fun cdv A outer s H vs Q E hr h => ?_)
  · obtain ⟨x, pa, kvs, z, v, t, ks, fs, us, root, rfl, _⟩ := h
    rfl
  · obtain ⟨x, pa, kvs, z, v, t, ks, fs, us, root, rfl, Bt, ok, hz, hpa, hv, fit, q⟩ := h
    have hu := hu_of hr
    refine ⟨_, (pss_cons (ps_if (PW.pt (pw_or (pt_not (pt_val (pe_callB call_isi (by rfl) T.n_isinstance (by decide +kernel) (pa_cons (pv 3) (pa_cons (pe_bltn (v := .ty "tuple") (by rfl) T.n_tuple (by decide +kernel) rfl) pa_nil))))) (pw_or1 (pt_cmpR op_eq (pe_callB call_len_seq (by rfl) T.n_len (by decide +kernel) (pa_cons (pv 3) pa_nil)) pe_int (nomark _)))))
       (pss_one (ps_ret pe_bl))
       pss_nil)
      (pss_cons (ps_set (i := 4) sc_is_statement.nd rfl (.inl rfl) (pe_ix ix_tup (pv 3) pe_int (fun _ _ => rfl)))
      (pss_cons (ps_if (PW.pt (pw_and (pt_cmpR op_eq (pv 4) pe_str (nomark _)) (pw_and1 (pt_cmpR op_eq (pe_callB call_len_seq (by rfl) T.n_len (by decide +kernel) (pa_cons (pv 3) pa_nil)) pe_int (nomark _)))))
       (pss_one (ps_ret (pe_call G_is_field (hr.mono (by decide)) (by rfl) D_is_field.g D_is_field.F.kp D_is_field.b .nil pass0 (pa_cons (pv 0) (pa_cons (pv 2) (pa_cons (pv 3) pa_nil))))))
       pss_nil)
      (pss_cons (ps_if (PW.pt (pw_and (pt_cmpR op_eq (pv 4) pe_str (nomark _)) (pw_and1 (pt_cmpR op_eq (pe_callB call_len_seq (by rfl) T.n_len (by decide +kernel) (pa_cons (pv 3) pa_nil)) pe_int (nomark _)))))
       (pss_one (ps_ret (pe_call G_is_name (hr.mono (by decide)) (by rfl) D_is_name.g D_is_name.F.kp D_is_name.b .nil pass0 (pa_cons (pe_ix ix_tup (pv 3) pe_int (fun _ _ => rfl)) pa_nil))))
       pss_nil)
      (pss_cons (ps_if (PW.pt (pw_and (pt_cmpR op_eq (pv 4) pe_str (nomark _)) (pw_and1 (pt_cmpR op_eq (pe_callB call_len_seq (by rfl) T.n_len (by decide +kernel) (pa_cons (pv 3) pa_nil)) pe_int (nomark _)))))
       (pss_one (ps_ret (pe_and (pe_call G_has_members (hr.mono (by decide)) (by rfl) D_has_members.g D_has_members.F.kp D_has_members.b .nil pass0 (pa_cons (pv 0) (pa_cons (pe_ix ix_tup (pv 3) pe_int (fun _ _ => rfl)) pa_nil))) (pe_one (pe_call G_is_rows (hr.mono (by decide)) (by rfl) D_is_rows.g D_is_rows.F.kp D_is_rows.b .nil pass0 (pa_cons (pe_ix ix_tup (pv 3) pe_int (fun _ _ => rfl)) pa_nil))))))
       pss_nil)
      (pss_cons (ps_if (PW.pt (pw_and (pt_cmpR op_eq (pv 4) pe_str (nomark _)) (pw_and1 (pt_cmpR op_eq (pe_callB call_len_seq (by rfl) T.n_len (by decide +kernel) (pa_cons (pv 3) pa_nil)) pe_int (nomark _)))))
       (pss_one (ps_ret (pe_call G_is_key (hr.mono (by decide)) (by rfl) D_is_key.g D_is_key.F.kp D_is_key.b .nil pass0 (pa_cons (pe_ix ix_tup (pv 3) pe_int (fun _ _ => rfl)) (pa_cons (pv 1) pa_nil)))))
       pss_nil)
      (pss_cons (ps_if (PW.pt (pw_and (pt_cmpR op_eq (pv 4) pe_str (nomark _)) (pw_and1 (pt_cmpR op_eq (pe_callB call_len_seq (by rfl) T.n_len (by decide +kernel) (pa_cons (pv 3) pa_nil)) pe_int (nomark _)))))
       (pss_one (ps_ret (pe_and (pe_call G_is_name (hr.mono (by decide)) (by rfl) D_is_name.g D_is_name.F.kp D_is_name.b .nil pass0 (pa_cons (pe_ix ix_tup (pv 3) pe_int (fun _ _ => rfl)) pa_nil)) (pe_and (pe_callB call_isi (by rfl) T.n_isinstance (by decide +kernel) (pa_cons (pe_ix ix_tup (pv 3) pe_int (fun _ _ => rfl)) (pa_cons (pe_bltn (v := .ty "bool") (by rfl) T.n_bool (by decide +kernel) rfl) pa_nil))) (pe_one (pe_call G_is_rows (hr.mono (by decide)) (by rfl) D_is_rows.g D_is_rows.F.kp D_is_rows.b .nil pass0 (pa_cons (pe_ix ix_tup (pv 3) pe_int (fun _ _ => rfl)) pa_nil)))))))
       pss_nil)
      (pss_one (ps_ret pe_bl))))))))), ?_⟩
    have nw : ∀ {x y : Str}, x ≠ y → ¬ (V.str x = V.str y) := fun h e => h (V.str.inj e)
    have s0 : Same H H := fun _ _ e => e
    cases hv with
    | field e r =>
      obtain ⟨h1, h2, h3⟩ := fit
      refine ⟨.ref _, rfl, _, _, _, _, true, rfl, .ty "tuple", .base (.tup e), kit_ty (by decide +kernel), true, rfl, iteF ⟨.ref _, rfl, _, _, rfl, .inr (.inl (.inl e)), rfl, false, blF (fun h => absurd (V.int.inj h) (show ¬ ((4 : Int) = 0) by decide)), iteF ⟨.ref _, rfl, _, _, 0, _, rfl, rfl, .inl (.inl e), atI_nat (j := 0) rfl, ⟨.str _, rfl, rfl, true, blT rfl, iteT ⟨.ref _, rfl, _, _, rfl, .inr (.inl (.inl e)), rfl, true, blT rfl, iteT ?_⟩⟩⟩⟩⟩
      exact ⟨.ref x, rfl, .str z, rfl, .ref _, rfl, x, _, z, _, _, _, _, ks, fs, us, root, rfl, Bt, ok, hz, e, r, h1, h2, h3, q⟩
    | kind e =>
      refine ⟨.ref _, rfl, _, _, _, _, true, rfl, .ty "tuple", .base (.tup e), kit_ty (by decide +kernel), true, rfl, iteF ⟨.ref _, rfl, _, _, rfl, .inr (.inl (.inl e)), rfl, false, blF (fun h => absurd (V.int.inj h) (show ¬ ((2 : Int) = 0) by decide)), iteF ⟨.ref _, rfl, _, _, 0, _, rfl, rfl, .inl (.inl e), atI_nat (j := 0) rfl, ⟨.str _, rfl, rfl, false, blF (nw (by decide +kernel)), iteF (iteF ⟨.str _, rfl, rfl, true, blT rfl, iteT ⟨.ref _, rfl, _, _, rfl, .inr (.inl (.inl e)), rfl, true, blT rfl, iteT ?_⟩⟩)⟩⟩⟩⟩
      exact ⟨.ref _, rfl, _, _, 1, _, rfl, rfl, .inl (.inl e), atI_nat (j := 1) rfl, _, rfl, fit, q⟩
    | on e r =>
      obtain ⟨h1, h2, h3⟩ := fit
      refine ⟨.ref _, rfl, _, _, _, _, true, rfl, .ty "tuple", .base (.tup e), kit_ty (by decide +kernel), true, rfl, iteF ⟨.ref _, rfl, _, _, rfl, .inr (.inl (.inl e)), rfl, false, blF (fun h => absurd (V.int.inj h) (show ¬ ((3 : Int) = 0) by decide)), iteF ⟨.ref _, rfl, _, _, 0, _, rfl, rfl, .inl (.inl e), atI_nat (j := 0) rfl, ⟨.str _, rfl, rfl, false, blF (nw (by decide +kernel)), iteF (iteF ⟨.str _, rfl, rfl, false, blF (nw (by decide +kernel)), iteF (iteF ⟨.str _, rfl, rfl, true, blT rfl, iteT ⟨.ref _, rfl, _, _, rfl, .inr (.inl (.inl e)), rfl, true, blT rfl, iteT ?_⟩⟩)⟩)⟩⟩⟩⟩
      refine ⟨.ref x, rfl, .ref _, rfl, _, _, 1, _, rfl, rfl, .inl (.inl e), atI_nat (j := 1) rfl, x, _, ks, fs, us, root, rfl, Bt, ok.k1, ok.f1, ok.u1, fun H1 s1 => ?_⟩
      rw [decide_eq_true (⟨h1, h2⟩ : _ ∧ _)]
      refine ⟨true, rfl, iteT ⟨.ref _, rfl, _, _, 2, _, rfl, rfl, .inl (.inl (s1 _ _ e)), atI_nat (j := 2) rfl, _, _, rfl, r.same s1, ?_⟩⟩
      rw [decide_eq_true h3]
      exact q H1 s1
    | part e =>
      refine ⟨.ref _, rfl, _, _, _, _, true, rfl, .ty "tuple", .base (.tup e), kit_ty (by decide +kernel), true, rfl, iteF ⟨.ref _, rfl, _, _, rfl, .inr (.inl (.inl e)), rfl, false, blF (fun h => absurd (V.int.inj h) (show ¬ ((2 : Int) = 0) by decide)), iteF ⟨.ref _, rfl, _, _, 0, _, rfl, rfl, .inl (.inl e), atI_nat (j := 0) rfl, ⟨.str _, rfl, rfl, false, blF (nw (by decide +kernel)), iteF (iteF ⟨.str _, rfl, rfl, false, blF (nw (by decide +kernel)), iteF (iteF ⟨.str _, rfl, rfl, false, blF (nw (by decide +kernel)), iteF (iteF ⟨.str _, rfl, rfl, true, blT rfl, iteT ⟨.ref _, rfl, _, _, rfl, .inr (.inl (.inl e)), rfl, true, blT rfl, iteT ?_⟩⟩)⟩)⟩)⟩⟩⟩⟩
      refine ⟨.ref _, rfl, _, _, 1, _, rfl, rfl, .inl (.inl e), atI_nat (j := 1) rfl, .ref pa, rfl, _, pa, rfl, .inl ⟨_, rfl, .inr ⟨kvs, .inl hpa, ?_⟩⟩⟩
      rw [show (valV kvs (Sum.inr _)).isSome = true from fit]
      exact q H s0
    | iff e r =>
      obtain ⟨h1, h2⟩ := fit
      refine ⟨.ref _, rfl, _, _, _, _, true, rfl, .ty "tuple", .base (.tup e), kit_ty (by decide +kernel), true, rfl, iteF ⟨.ref _, rfl, _, _, rfl, .inr (.inl (.inl e)), rfl, false, blF (fun h => absurd (V.int.inj h) (show ¬ ((4 : Int) = 0) by decide)), iteF ⟨.ref _, rfl, _, _, 0, _, rfl, rfl, .inl (.inl e), atI_nat (j := 0) rfl, ⟨.str _, rfl, rfl, false, blF (nw (by decide +kernel)), iteF (iteF ⟨.str _, rfl, rfl, false, blF (nw (by decide +kernel)), iteF (iteF ⟨.str _, rfl, rfl, false, blF (nw (by decide +kernel)), iteF (iteF ⟨.str _, rfl, rfl, false, blF (nw (by decide +kernel)), iteF (iteF ⟨.str _, rfl, rfl, true, blT rfl, iteT ⟨.ref _, rfl, _, _, rfl, .inr (.inl (.inl e)), rfl, true, blT rfl, iteT ?_⟩⟩)⟩)⟩)⟩)⟩⟩⟩⟩
      refine ⟨.ref _, rfl, _, _, 1, _, rfl, rfl, .inl (.inl e), atI_nat (j := 1) rfl, _, rfl, h1, fun H1 s1 => ⟨true, rfl, iteT ?_⟩⟩
      refine ⟨.ref _, rfl, _, _, 2, _, rfl, rfl, .inl (.inl (s1 _ _ e)), atI_nat (j := 2) rfl, _, _, _, _, true, rfl, .ty "bool", .base (.bl _), kit_ty (by decide +kernel), true, rfl, iteT ?_⟩
      refine ⟨.ref _, rfl, _, _, 3, _, rfl, rfl, .inl (.inl (s1 _ _ e)), atI_nat (j := 3) rfl, _, _, rfl, r.same s1, ?_⟩
      rw [decide_eq_true h2]
      exact q H1 s1
end
end NW
namespace NW
open PySem PySem.Spec PyProof.Rows L2
/-! ### a set of texts that can be walked -/
section
variable {pr : Program} {wl : World}
abbrev skd (pr : Program) (wl : World) := PySem.strKind pr wl
def rowTx (e : Int × Value) : Str := PyProof.Rows.strOf e.2
/-- the order of its walk is settled -/
def Walked (wl : World) (t : SetTable) : Prop := Ris t.place.toList ∧ (wl.params.followText "set-order" = true ∨ t.led = true)
/-- these are its rows -/
structure TxRows (pr : Program) (wl : World) (es : Array (Int × Value)) (S : Str → Bool) : Prop where
  el : ElemsOf (skd pr wl) es.toList
  me : ∀ z, S z = true ↔ ∃ e ∈ es.toList, (skd pr wl).is z e.2 = true
  nd : (es.toList.map rowTx).Nodup
  sz : es.size < scanBound
def TxSet (pr : Program) (wl : World) (h : Heap) (a : Addr) (S : Str → Bool) (n : Nat) : Prop :=
  ∃ (o : Obj) (es : Array (Int × Value)) (ep : Nat) (t : SetTable), (h.get? a = some o ∧ o.ExactSet ∧ o.data = .set es ep t) ∧ TxRows pr wl es S ∧ t.fits es.size = true ∧ es.size = n ∧ Walked wl t
theorem row_is {e : Int × Value} {z : Str} (h : (skd pr wl).is z e.2 = true) : rowTx e = z := by
  obtain ⟨t, q⟩ := Value.isStrOf_shape (show Value.isStrOf z e.2 = true from h)
  unfold rowTx
  rw [q]
  rfl
theorem el_is {l : List (Int × Value)} (h : ElemsOf (skd pr wl) l) {e : Int × Value} (m : e ∈ l) : (skd pr wl).is (rowTx e) e.2 = true := by
  obtain ⟨⟨z, q, _⟩, _⟩ := h e m
  rw [row_is q]
  exact q
theorem TxRows.mem {es : Array (Int × Value)} {S : Str → Bool} (R : TxRows pr wl es S) (z : Str) : S z = true ↔ z ∈ es.toList.map rowTx := by
  rw [R.me z, List.mem_map]
  constructor
  · rintro ⟨e, m, q⟩
    exact ⟨e, m, row_is q⟩
  · rintro ⟨e, m, rfl⟩
    exact ⟨e, m, el_is R.el m⟩
theorem TxSet.of {h : Heap} {a : Addr} {S : Str → Bool} {n : Nat} (R : TxSet pr wl h a S n) : h.SetOf (skd pr wl) a S n := by
  obtain ⟨o, es, ep, t, ⟨g1, g2, g3⟩, r, f, z, _⟩ := R
  exact ⟨o, es, ep, t, g1, g2, g3, r.el, r.me, r.sz, f, z⟩
theorem TxSet.at {h h' : Heap} {a : Addr} {S : Str → Bool} {n : Nat} (R : TxSet pr wl h a S n) (k : ∀ o, h.get? a = some o → h'.get? a = some o) : TxSet pr wl h' a S n := by
  obtain ⟨o, es, ep, t, ⟨g1, g2⟩, r⟩ := R
  exact ⟨o, es, ep, t, ⟨k o g1, g2⟩, r⟩
theorem TxSet.cong {h : Heap} {a : Addr} {S S' : Str → Bool} {n n' : Nat} (R : TxSet pr wl h a S n) (e : ∀ z, S z = S' z) (k : n = n') : TxSet pr wl h a S' n' := by
  obtain rfl : S = S' := funext e
  subst k
  exact R
end
section
variable {pr : Program} {wl : World} {Ar : Around} {Ex : Value → Shared → Prop} {s : Shared} {sa : Addr}
/-- the rows are stored, and laid anew where the table is too full -/
theorem tx_store {gv : Bool → Sem Unit} (free : ∀ (b : Bool) (s1 : Shared) (R : Unit → Shared → Prop), R () s1 → wpAny (model pr wl) Ar (gv b) R Ex s1) {o : Obj} {e0 e1 : Array (Int × Value)} {ep : Nat} {t0 t1 : SetTable} {S' : Str → Bool} {dm : Bool}
    (at0 : s.heap.get? sa = some o ∧ o.ExactSet ∧ o.data = .set e0 ep t0) (rows : TxRows pr wl e1 S') (fit : t1.fits e1.size = true) (wk : Walked wl t1) {R : Option Bool → Shared → Prop}
    (go : ∀ h2, Heap.SameBut sa s.heap h2 → TxSet pr wl h2 sa S' e1.size → R (some true) { s with heap := h2 }) :
    wpAny (model pr wl) Ar (do
        storeSet sa e1 t1
        if (!dm && t1.tooFull) = true then do
            gv (relayAll t1 e1 (SetTable.grown e1.size)).2.2
            storeSet sa (relayAll t1 e1 (SetTable.grown e1.size)).1 (relayAll t1 e1 (SetTable.grown e1.size)).2.1
            pure (some true)
          else pure (some true)) R Ex s := by
  obtain ⟨at1, ex, dat⟩ := at0
  have once := store_at (es' := e1) (t' := t1) at1 dat
  have but := Heap.SameBut.update s.heap sa (Obj.putSet e1 t1)
  refine wpAny_bind (wpAny_storeSet_of at1 dat ?_ (fits_of_scanBound rows.sz))
  by_cases full : (!dm && t1.tooFull) = true
  · rw [if_pos full]
    have perm := relayAll_perm t1 e1 (SetTable.grown e1.size)
    have fit2 := relayAll_fits t1 e1 (SetTable.grown e1.size)
    have ris2 := relayAll_ris t1 e1 (SetTable.grown e1.size)
    have led2 := relayAll_led t1 e1 (SetTable.grown e1.size)
    generalize relayAll t1 e1 (SetTable.grown e1.size) = L at perm fit2 ris2 led2 ⊢
    rcases L with ⟨e2, t2, gave⟩
    dsimp only at perm fit2 ris2 led2 ⊢
    have same : e2.size = e1.size := by rw [← Array.length_toList, perm.length_eq, Array.length_toList]
    have small : e2.size < scanBound := same ▸ rows.sz
    refine wpAny_bind (free _ _ _ (wpAny_bind (wpAny_storeSet_of once rfl (wpAny_pure (go _ (but.trans (Heap.SameBut.update _ sa _)) ?_)) (fits_of_scanBound small))))
    refine ⟨_, e2, _, t2, ⟨store_at (es' := e2) (t' := t2) once rfl, ex, rfl⟩, ⟨fun e m => rows.el e (perm.mem_iff.mp m), fun z => ?_, (perm.map rowTx).nodup_iff.mpr rows.nd, small⟩, fit2, same, ris2, ?_⟩
    · rw [rows.me z]
      exact ⟨fun ⟨e, m, q⟩ => ⟨e, perm.mem_iff.mpr m, q⟩, fun ⟨e, m, q⟩ => ⟨e, perm.mem_iff.mp m, q⟩⟩
    · rcases wk.2 with q | q
      · exact .inl q
      · exact .inr (by rw [show t2.led = t1.led from led2]; exact q)
  · rw [if_neg full]
    exact wpAny_pure (go _ but ⟨_, e1, _, t1, ⟨once, ex, rfl⟩, rows, fit, rfl, wk⟩)
theorem tx_add {z : Str} {tk : Tok} {S : Str → Bool} {n : Nat} {R : Bool → Shared → Prop} (X : TxSet pr wl s.heap sa S n) (room : n + 1 < scanBound)
    (go : ∀ h2, Heap.SameBut sa s.heap h2 → TxSet pr wl h2 sa (fun y => S y || decide (y = z)) (if S z = true then n else n + 1) → R (!S z) { s with heap := h2 }) :
    wpAny (model pr wl) Ar (setAddHashed sa (.str z tk) ((skd pr wl).hash z)) R Ex s := by
  obtain ⟨o, es, ep, t, ⟨at1, ex, dat⟩, rows, fit, rfl, wk⟩ := X
  have isz : (skd pr wl).is z (.str z tk) = true := strKind_is _ _ _ _
  have scn : (Value.str z tk).scannable = true := rfl
  unfold setAddHashed setAddHashedIn
  refine wpAny_holding (wpAny_bind (wpAny_setState_of at1 dat fit ?_))
  dsimp only
  rw [byScan_of scn rows.sz rows.el]
  simp only [↓reduceIte]
  unfold setAddByScan
  refine wpAny_bind (wpAny_bind (wpAny_rule (wpAny_bind (wpAny_setScan_of isz at1 dat fit rows.el ?_))))
  cases found : List.findIdx? (fun e => (skd pr wl).is z e.2) es.toList with
  | some j =>
    obtain ⟨hj, pj, _⟩ := List.findIdx?_eq_some_iff_getElem.mp found
    have yes : S z = true := (rows.me z).mpr ⟨es.toList[j], List.getElem_mem hj, pj⟩
    have res := go s.heap (Heap.SameBut.refl sa s.heap) ⟨o, es, ep, t, ⟨at1, ex, dat⟩, ⟨rows.el, fun y => ?_, rows.nd, rows.sz⟩, fit, (if_pos yes).symm, wk⟩
    · rw [yes] at res
      exact wpAny_pure (wpAny_pure res)
    · rw [Bool.or_eq_true, decide_eq_true_eq, ← rows.me y]
      exact ⟨fun q => q.elim id fun e => e ▸ yes, .inl⟩
  | none =>
    have out : ∀ e ∈ es.toList, ¬ (skd pr wl).is z e.2 = true := fun e m q => by
      have := List.findIdx?_eq_none_iff.mp found e m
      rw [q] at this
      cases this
    have no : S z = false := Bool.eq_false_iff.mpr fun q => by
      obtain ⟨e, m, y⟩ := (rows.me z).mp q
      exact out e m y
    have gw : ∀ (b : Bool) (s1 : Shared) (R' : Unit → Shared → Prop), R' () s1 → wpAny (model pr wl) Ar (match b with | true => rule "set.scan.the-table-gave-way" | false => pure ()) R' Ex s1 := by
      intro b s1 R' q
      cases b
      · exact wpAny_pure q
      · exact wpAny_rule q
    have perm := layNew_perm t es ((skd pr wl).hash z) (.str z tk)
    have fit1 := layNew_fits t es ((skd pr wl).hash z) (.str z tk)
    have ris1 := layNew_ris t es ((skd pr wl).hash z) (.str z tk) wk.1
    have led1 := layNew_led t es ((skd pr wl).hash z) (.str z tk)
    dsimp only
    generalize layNew t es ((skd pr wl).hash z) (.str z tk) = L at perm fit1 ris1 led1 ⊢
    rcases L with ⟨e1, t1, dm, gave⟩
    dsimp only at perm fit1 ris1 led1 ⊢
    rw [Array.toList_push] at perm
    have pc := perm.trans (List.perm_append_singleton _ _)
    have len1 : e1.size = es.size + 1 := by rw [← Array.length_toList, pc.length_eq, List.length_cons, Array.length_toList]
    have new : TxRows pr wl e1 (fun y => S y || decide (y = z)) := by
      refine ⟨fun e m => ?_, fun y => ?_, ?_, by rw [len1]; exact room⟩
      · rcases List.mem_cons.mp (pc.mem_iff.mp m) with rfl | m
        · exact ⟨⟨z, isz, rfl⟩, scn⟩
        · exact rows.el e m
      · rw [Bool.or_eq_true, decide_eq_true_eq, rows.me y]
        constructor
        · rintro (⟨e, m, q⟩ | rfl)
          · exact ⟨e, pc.mem_iff.mpr (List.mem_cons_of_mem _ m), q⟩
          · exact ⟨_, pc.mem_iff.mpr List.mem_cons_self, isz⟩
        · rintro ⟨e, m, q⟩
          rcases List.mem_cons.mp (pc.mem_iff.mp m) with rfl | m
          · exact .inr ((row_is q).symm.trans (row_is isz))
          · exact .inl ⟨e, m, q⟩
      · refine (pc.map rowTx).nodup_iff.mpr (List.nodup_cons.mpr ⟨fun m => ?_, rows.nd⟩)
        obtain ⟨e, me, q⟩ := List.mem_map.mp m
        have q' : rowTx e = z := q
        exact out e me (q' ▸ el_is rows.el me)
    have wk1 : Walked wl t1 := ⟨ris1, wk.2.imp id fun q => by rw [led1]; exact q⟩
    have fin : ∀ h2, Heap.SameBut sa s.heap h2 → TxSet pr wl h2 sa (fun y => S y || decide (y = z)) e1.size → R true { s with heap := h2 } := fun h2 b r => by
      have res := go h2 b (r.cong (fun _ => rfl) (by rw [len1, no]; rfl))
      rw [no] at res
      exact res
    refine wpAny_bind (gw _ _ _ ?_)
    split
    · refine wpAny_bind ?_
      rw [hashByValue_scannable 8 scn]
      refine wpAny_pure (tx_store gw ⟨at1, ex, dat⟩ new ?_ ?_ fun h2 b r => wpAny_pure (fin h2 b r))
      · first | (split <;> first | exact fit1 | exact SetTable.fits_plain_off fit1) | exact fit1
      · first | (split <;> exact wk1) | exact wk1
    · refine wpAny_bind (wpAny_pure ?_)
      simp only [↓reduceIte]
      exact tx_store gw ⟨at1, ex, dat⟩ new fit1 wk1 fun h2 b r => wpAny_pure (fin h2 b r)
end
end NW
namespace NW
open PySem PySem.Spec PyProof.Rows L2
/-! ### set(l) of a list of texts, and sorted of it -/
section
variable {pr : Program} {wl : World} {Ar : Around} {Post : Result → Shared → Prop} {it : Addr} {foot writ : List Addr} {Gn : Array GenState → Array GenState → Prop} {n : Nat} {Pv : Nat → Value → Prop} {Stt : Nat → Shared → Prop}
theorem loopTy (Wk : WalksS pr wl Ar.in1 it foot writ Gn n Pv Stt) (sa : Addr) (out : sa ∉ foot) (xs : List Str) (lenx : xs.length = n) (few : n ≤ 1000) (tx : ∀ i v, Pv i v → ∃ t, v = .str (xs.getD i Str.empty) t) :
    ∀ (k i m : Nat) (s : Shared), i + k = n → m ≤ i → Stt i s → TxSet pr wl s.heap sa (inTake xs i) m →
      (∀ s2 m2, Moved (sa :: writ) Gn s s2 → m2 ≤ n → TxSet pr wl s2.heap sa (inTake xs n) m2 → Post (.ok (.ret .none)) s2) → codeAny (model pr wl) Ar (.builtin "set.update.loop" ⟨[.ref sa, .ref it], []⟩) Post s := by
  have notW : sa ∉ writ := fun z => out (Wk.sub _ z)
  have more : ∀ b ∈ writ, b ∈ sa :: writ := fun b m => List.mem_cons_of_mem _ m
  have carry : ∀ {s s2 : Shared} {i m : Nat}, Moved writ Gn s s2 → TxSet pr wl s.heap sa (inTake xs i) m → TxSet pr wl s2.heap sa (inTake xs i) m := fun {s s2 i m} mv st => st.at fun o ho => mv.heap sa _ notW ho
  intro k
  induction k with
  | zero =>
    intro i m s e hm st held fin
    obtain rfl : i = n := e
    refine codeAny_builtin F.entry_set_update_loop ?_
    rw [Around.under_plainId F.plain_set_update_loop]
    show wpAny _ Ar.in1 (do let y ← pyNext (.ref it); _) _ _ s
    exact wpAny_bind (Wk.done s _ _ st fun s2 mv => wpAny_pure (fin s2 m (mv.mono more) hm (carry mv held)))
  | succ k ih =>
    intro i m s e hm st held fin
    have lt : i < n := by omega
    refine codeAny_builtin F.entry_set_update_loop ?_
    rw [Around.under_plainId F.plain_set_update_loop]
    show wpAny _ Ar.in1 (do let y ← pyNext (.ref it); _) _ _ s
    refine wpAny_bind (Wk.item i s _ _ lt st fun v s2 pv st2 mv => ?_)
    obtain ⟨t, rfl⟩ := tx i v pv
    have held2 := carry mv held
    generalize hz : xs.getD i Str.empty = z at *
    show wpAny _ Ar.in1 (do let _ ← holding [Value.str z t] (setAdd sa (.str z t)); _) _ _ s2
    refine wpAny_bind (wpAny_holding ?_)
    unfold setAdd
    refine wpAny_holding (wpAny_bind ((PySem.strKind pr wl).pyHash (k := z) (strKind_is _ _ _ _) ?_))
    refine tx_add (s := { s2 with toks := s2.toks + 1 }) held2 (by unfold scanBound; omega) fun h3 sb st3 => ?_
    have st4 : TxSet pr wl h3 sa (inTake xs (i + 1)) (if inTake xs i z = true then m else m + 1) := st3.cong (fun y => by rw [← hz]; exact inTake_succ (by omega) y) rfl
    have hm2 : (if inTake xs i z = true then m else m + 1) ≤ i + 1 := by split <;> omega
    refine wpAny_pure ⟨plainId_quiet F.plain_set_update_loop _, ih (i + 1) _ _ (by omega) hm2 (Wk.frame _ s2 _ _ st2 (Nat.le_succ _) fun b hb o eo => ?_) st4 fun s5 m5 mv5 h5 st5 => ?_⟩
    · rw [sb.2 b fun z => out (z ▸ hb)]
      exact eo
    · refine fin s5 m5 (Moved.trans Wk.gtrans ((mv.mono more).then_heap (Nat.le_succ _) fun b o hb eo => ?_) mv5) h5 st5
      rw [sb.2 b fun z => hb (z ▸ List.mem_cons_self)]
      exact eo
theorem tx_fresh {h : Heap} {a : Addr} (at_ : h.get? a = some { cls := .type "set", dict := none, data := .set #[] 0 (.fresh 0 0 (!wl.params.followText "set-order")) }) : TxSet pr wl h a (fun _ => false) 0 := by
  refine ⟨_, #[], 0, _, ⟨at_, ⟨rfl, rfl, rfl⟩, rfl⟩, ⟨fun e m => by simp at m, fun z => by simp, by simp, by decide⟩, by rfl, rfl, List.Pairwise.nil, ?_⟩
  show _ ∨ (!wl.params.followText "set-order") = true
  cases wl.params.followText "set-order"
  · exact .inr rfl
  · exact .inl rfl
set_option maxHeartbeats 8000000 in
theorem setTy {tu : Addr} {its : Array Value} {xs : List Str} {Qv : Value → Shared → Prop} {Ex : Value → Shared → Prop} {s : Shared} (calm : Ar.handled = none) (lst : s.heap.IsList tu its) (txt : StrsAre its.toList xs) (few : xs.length ≤ 1000)
    (go : ∀ (h2 : Heap) (tk m : Nat), m ≤ xs.length → TxSet pr wl h2 s.heap.objs.size (inTake xs its.size) m → (∀ b o, b < s.heap.objs.size → s.heap.get? b = some o → h2.get? b = some o) → Qv (.ref s.heap.objs.size) { s with heap := h2, toks := tk }) :
    wpAny (model pr wl) Ar (call (.type "set") [.ref tu]) Qv Ex s := by
  obtain ⟨c0, tl0, hmro⟩ := PySem.F.called_set.mro
  have hmade := PySem.F.called_set.made
  have hsub := PySem.F.called_set.sub
  refine wpAny_call (codeAny_of_tree ?_)
  show wpAny _ _ (callAny (.type "set") _) _ _ _
  refine wpAny_pure ⟨Code.quiet_builtin _ (by decide +kernel), codeAny_builtin PySem.F.entry_type_call ?_⟩
  rw [Around.under_plain (weight_type_call_type "set" [.ref tu] []) rfl]
  have q1 := PySem.F.called_set.notType
  have q2 := PySem.F.called_set.canCreate
  have q3 := PySem.F.typeCall_set_1 (.ref tu)
  repeat (any_goals (first | assumption | wp_step))
  generalize hnew : s.heap.objs.size = new at *
  refine codeAny_mono (code_set_led1 (.ref tu) (E := Ex) (Q₁ := fun u s1 => u = .ref new ∧ s1 = { s with heap := s.heap.push { cls := .type "set", dict := none, data := .set #[] 0 (.fresh 0 0 (!wl.params.followText "set-order")) } }) ⟨by rw [hnew], rfl⟩) fun res s1 hres => ?_
  match res, hres with
  | .error _, hres => exact hres
  | .ok (.ret u), hres =>
    obtain ⟨rfl, rfl⟩ := hres
    generalize hled : (!wl.params.followText "set-order") = led at *
    have at1 : (s.heap.push ({ cls := .type "set", dict := none, data := .set #[] 0 (.fresh 0 0 led) } : Obj)).get? new = some ({ cls := .type "set", dict := none, data := .set #[] 0 (.fresh 0 0 led) } : Obj) := by
      rw [← hnew]
      exact Heap.get?_push_size _ rfl
    have isS : Shared.TypeIs { s with heap := s.heap.push ({ cls := .type "set", dict := none, data := .set #[] 0 (.fresh 0 0 led) } : Obj) } (.ref new) "set" := ⟨_, at1, rfl⟩
    have q4 := PySem.F.called_set.init.lookup
    have q5 := PySem.F.called_set.init.bind (.ref new)
    repeat (any_goals (first | assumption | wp_step))
    refine codeAny_mono (codeAny_call_builtin (R := wants (fun r s2 => r = .none ∧ ∃ h2 tk m, s2 = { s with heap := h2, toks := tk } ∧ m ≤ xs.length ∧ TxSet pr wl h2 new (inTake xs its.size) m ∧ (∀ b o, b < new → s.heap.get? b = some o → h2.get? b = some o)) Ex)
      PySem.F.called_set.init.plain PySem.F.entry_set_init (check_set_init_1 isS ?_)) fun r2 s2 hr2 => ?_
    · obtain ⟨⟨oc, od, odat, osl⟩, at0, hcl, nl, hdl⟩ := lst
      simp only at hcl hdl
      subst hcl hdl
      have at2 : (s.heap.push ({ cls := .type "set", dict := none, data := .set #[] 0 (.fresh 0 0 led) } : Obj)).get? tu = some { cls := .type "list", dict := od, data := .seq its nl, slots := osl } := Heap.get?_push_of_some _ at0
      have q6 := PySem.F.sub_list_set
      have q7 := PySem.F.sub_list_frozenset
      have q8 : (Value.type "list" == Value.type "dict") = false := by decide
      have lst2 : (s.heap.push ({ cls := .type "set", dict := none, data := .set #[] 0 (.fresh 0 0 led) } : Obj)).IsList tu its := ⟨_, at2, rfl, nl, rfl⟩
      unfold Builtin.«set.__init__» noKeywords Builtin.Frozenset.updateFrom
      generalize hPI : pyIter = PI
      wp_walk
      subst hPI
      refine wpAny_pyIter_list lst2 ?_
      refine wpAny_bind (wpAny_runValue ?_)
      have below : tu < new := by rw [← hnew]; exact Heap.lt_size at0
      have hsize : (s.heap.push ({ cls := .type "set", dict := none, data := .set #[] 0 (.fresh 0 0 led) } : Obj)).objs.size = new + 1 := by rw [Heap.size_push, hnew]
      have apart : tu ≠ (s.heap.push ({ cls := .type "set", dict := none, data := .set #[] 0 (.fresh 0 0 led) } : Obj)).objs.size := by rw [hsize]; exact Nat.ne_of_lt (Nat.lt_succ_of_lt below)
      have notIn : new ∉ [(s.heap.push ({ cls := .type "set", dict := none, data := .set #[] 0 (.fresh 0 0 led) } : Obj)).objs.size, tu] := by
        rw [hsize]
        simp only [List.mem_cons, List.not_mem_nil, or_false, not_or]
        exact ⟨Nat.ne_of_lt (Nat.lt_succ_self _), Nat.ne_of_gt below⟩
      have lenx : xs.length = its.size := by rw [← StrsAre.len_eq txt, Array.length_toList]
      have vals : ∀ (i : Nat) (v : Value), its[i]? = some v → ∃ t, v = .str (xs.getD i Str.empty) t := fun i v e => SS.strs_at txt i v (by rw [Array.getElem?_toList]; exact e)
      have calm3 : Ar.in1.in1.in1.handled = none := by simp [calm]
      refine loopTy ((Walks.list calm3 _ tu apart its).toS) new notIn xs lenx (by omega) vals its.size 0 0 _ (by omega) (Nat.le_refl _) ⟨⟨_, Heap.get?_push_size _ rfl, rfl, rfl⟩, lst2.push _⟩ ?start ?fin
      case start =>
        have at3 : ((s.heap.push ({ cls := .type "set", dict := none, data := .set #[] 0 (.fresh 0 0 led) } : Obj)).push { cls := .type "list_iterator", data := .fields #[.ref tu, .int 0 0] }).get? new = some ({ cls := .type "set", dict := none, data := .set #[] 0 (.fresh 0 0 led) } : Obj) := Heap.get?_push_of_some _ at1
        exact (tx_fresh (by rw [hled]; exact at3)).cong (fun z => by simp [inTake]) rfl
      case fin =>
        intro s5 m5 mv h5' st5
        obtain ⟨h5, g5, d5, tk5, os5⟩ := s5
        obtain rfl : g5 = s.gens := mv.gens
        obtain rfl : d5 = s.drawn := mv.drawn
        obtain rfl : os5 = s.os := mv.os
        show wpAny _ _ _ _ _ _
        refine wpAny_pure ?_
        show wpAny _ _ (ret Value.none) _ _ _
        refine wpAny_pure ⟨rfl, h5, tk5, m5, rfl, by omega, st5, fun b o hb eo => mv.heap b o ?_ (Heap.get?_push_of_some _ (Heap.get?_push_of_some _ eo))⟩
        rw [hsize]
        simp only [List.mem_cons, List.not_mem_nil, or_false, not_or]
        exact ⟨Nat.ne_of_lt hb, Nat.ne_of_lt (Nat.lt_succ_of_lt hb)⟩
    · match r2, hr2 with
      | .error _, hr2 => exact hr2
      | .ok (.ret u), hr2 =>
        obtain ⟨rfl, h2, tk, m, rfl, hm, st2, kept⟩ := hr2
        repeat (any_goals (first | assumption | wp_step))
        exact go _ _ m hm st2 kept
      | .ok .next, hr2 => exact hr2.elim
      | .ok .brk, hr2 => exact hr2.elim
      | .ok .cont, hr2 => exact hr2.elim
  | .ok .next, hres => exact hres.elim
  | .ok .brk, hres => exact hres.elim
  | .ok .cont, hres => exact hres.elim
end
end NW
namespace NW
open PySem PySem.Spec PyProof.Rows L2
open TL (tl)
section
variable {pr : Program} {wl : World} {Ar : Around} {Ex : Value → Shared → Prop} {s : Shared} {sa : Addr}
theorem rows_strs : ∀ {l : List (Int × Value)} {vs : List Value}, ElemsOf (skd pr wl) l → vs = l.map (·.2) → StrsAre vs (l.map rowTx)
  | [], _, _, rfl => .nil
  | e :: l, _, h, rfl => by
    obtain ⟨⟨z, q, _⟩, _⟩ := h e List.mem_cons_self
    obtain ⟨t, q2⟩ := Value.isStrOf_shape (show Value.isStrOf z e.2 = true from q)
    show StrsAre (e.2 :: l.map (·.2)) (rowTx e :: l.map rowTx)
    rw [row_is q, q2]
    exact .cons z t (rows_strs (fun x m => h x (List.mem_cons_of_mem _ m)) rfl)
theorem strs_perm {vs : List Value} {l : List (Int × Value)} (h : ElemsOf (skd pr wl) l) (p : vs.Perm (l.map (·.2))) : StrsAre vs (vs.map PyProof.Rows.strOf) ∧ (vs.map PyProof.Rows.strOf).Perm (l.map rowTx) := by
  refine ⟨strsAre_map vs fun v m => ?_, ?_⟩
  · obtain ⟨e, me, rfl⟩ := List.mem_map.mp (p.mem_iff.mp m)
    obtain ⟨⟨z, q, _⟩, _⟩ := h e me
    obtain ⟨t, q2⟩ := Value.isStrOf_shape (show Value.isStrOf z e.2 = true from q)
    exact ⟨z, t, q2⟩
  · have := p.map PyProof.Rows.strOf
    rw [List.map_map] at this
    exact this
theorem sorted_tx {S : Str → Bool} {n : Nat} {Q : Value → Shared → Prop} (R : TxSet pr wl s.heap sa S n) (calm : Ar.handled = none) (few : n < 64)
    (go : ∀ s2 p (out : Array Value) (c : Nat) (ys : List Str), (∀ b o, s.heap.get? b = some o → s2.heap.get? b = some o) → s2.gens = s.gens → s2.os = s.os → s.heap.objs.size ≤ p →
      s2.heap.get? p = some (seqObj "list" out c) → StrsAre out.toList ys → sortedS ys = true → ys.Nodup → (∀ z, z ∈ ys ↔ S z = true) → ys.length = n → Q (.ref p) s2) :
    wpAny (model pr wl) Ar (call (.builtin "sorted") [.ref sa]) Q Ex s := by
  obtain ⟨o, es, ep, t, ⟨at1, ex, dat⟩, rows, fit, num, wk⟩ := R
  refine Calls.call_function_entry PyProof.Rows.kind_sorted PyProof.Rows.plain_sorted PyProof.Rows.entry_sorted (PyProof.Rows.args_sorted1 _) ?_
  unfold Builtin.«sorted»
  refine wpAny_bind (m := checkCount "sorted" 1 1 _) (wpAny_pure ?_)
  refine wpAny_bind (collect_set (A := Ar.in1) calm ⟨o, at1, ex.1, dat⟩ fit rows.sz wk.1 wk.2 fun s1 vs keep1 up1 g1 o1 pm => ?_)
  obtain ⟨txt, pt⟩ := strs_perm rows.el pm
  have num2 : vs.length = n := by rw [pm.length_eq, List.length_map, Array.length_toList]; exact num
  refine wpAny_bind (wpAny_newList ?_ (by rw [num2, sizeLine_eq]; omega))
  have atL : (s1.heap.push (seqObj "list" vs.toArray 0)).get? s1.heap.objs.size = some (seqObj "list" vs.toArray 0) := Heap.get?_push_size _ rfl
  refine wpAny_bind (wpAny_holding (wpAny_call_entry PyProof.Rows.slot_list_sort ⟨_, atL, rfl⟩ PyProof.Rows.entry_list_sort (list_sort_treeK strKind_oneLt (s := { s1 with heap := s1.heap.push (seqObj "list" vs.toArray 0) }) atL txt.keysOf
    (fun v₁ v₂ rest e => keyKind_strs (by rw [← e]; exact txt)) (by rw [num2]; exact few) fun st' hp hs => ⟨_, rfl, ?_⟩) (PyProof.Rows.args_list_sort _)))
  obtain ⟨ys, z1, z2, z3⟩ := sorted_out_str txt hp hs
  obtain ⟨c, atS⟩ := PyProof.Rows.sortedHeap_at (vs := vs) (out := (arrOf st').map (·.2)) atL
  have pn := z2.trans pt
  refine wpAny_pure ⟨_, rfl, go _ s1.heap.objs.size _ c ys (fun b u e => ?_) g1 o1 up1 atS z1 z3 (pn.nodup_iff.mpr rows.nd) (fun z => by rw [pn.mem_iff, rows.mem z]) (by rw [pn.length_eq, List.length_map, Array.length_toList]; exact num)⟩
  have q := keep1 b u e
  have below := Heap.lt_size q
  show (sortedHeap (s1.heap.push (seqObj "list" vs.toArray 0)) s1.heap.objs.size vs _).get? b = some u
  rw [PyProof.Rows.sortedHeap_old (Nat.ne_of_lt below) (by rw [size_push']; exact Nat.lt_succ_of_lt below)]
  exact Heap.get?_push_of_some _ q
end
/-! ### as rules -/
def TxO (P : Program) (w : World) (a : Addr) (S : Str → Bool) (n : Nat) : HO := .ext fun h => TxSet P w h a S n
section
variable {X : Cx}
def rSetTx (P : Program) (w : World) (K : PySem.W.Frag) : List V → Hp → VK → Prop := fun xs H Q => ∃ (a : Addr) (ys : List Str), xs = [.ref a] ∧ SqL K H a (ys.map V.str) ∧ ys.length ≤ 1000 ∧ ∀ p m, H p = none → m ≤ ys.length → Q (.ref p) (upd H p (TxO P w p (fun z => decide (z ∈ ys)) m))
theorem cr_setTx (hc : X.calm = true) : CallR X (.type "set") (rSetTx X.prog X.w X.K) := by
  intro pins s σ H xs us Q I r h
  obtain ⟨a, ys, rfl, ha, few, q⟩ := h
  rw [Vals.ref1 r]
  obtain ⟨its, rv, pl, _⟩ := I.list ha
  have en : its.toArray.size = ys.length := by rw [List.size_toArray, ← rv.length, List.length_map]
  refine setTy (I.ok.hd hc) pl.isList (by simpa using strs_vals rv) few fun h2 tk m hm st kept => ?_
  rw [en] at st
  have st2 : TxSet X.prog X.w h2 s.heap.objs.size (fun z => decide (z ∈ ys)) m := st.cong (fun z => by unfold inTake; rw [List.take_length]) rfl
  obtain ⟨o, es, ep, t, ⟨ho, _⟩, _⟩ := id st2
  exact ⟨.ref _, upd H s.heap.objs.size (TxO X.prog X.w s.heap.objs.size (fun z => decide (z ∈ ys)) m), I.laid (t' := tk) (fun b u e => kept b u (Heap.lt_size e) e) (Nat.le_refl _) ⟨st2, ⟨o, ho⟩, fun h1 h2 p k => p.at k⟩, rfl, q _ m (I.hok.fresh (Nat.le_refl _)) hm⟩
def rSortTx (P : Program) (w : World) : List V → Hp → VK → Prop := fun xs H Q => ∃ (a : Addr) (S : Str → Bool) (m : Nat), xs = [.ref a] ∧ H a = some (TxO P w a S m) ∧ m < 64 ∧ ∀ ys p, ys.Nodup → sortedS ys = true → (∀ z, z ∈ ys ↔ S z = true) → H p = none → Q (.ref p) (upd H p (.lst (ys.map V.str)))
theorem cr_sortTx (hc : X.calm = true) : CallR X (.builtin "sorted") (rSortTx X.prog X.w) := by
  intro pins s σ H vs us Q I r h
  obtain ⟨a, S, n, rfl, ha, few, q⟩ := h
  have R : TxSet X.prog X.w s.heap a S n := (I.hok a _ ha).1
  rw [Vals.ref1 r]
  refine sorted_tx R (I.ok.hd hc) few fun s2 p out c ys k g o hp hg hi so nd me hl => ?_
  have fits : (ys.map V.str).length ≤ sizeLine := by rw [List.length_map, hl, sizeLine_eq]; omega
  have new : H p = none := I.hok.fresh hp
  have J : Inv X pins σ (upd H p (.lst (ys.map V.str))) { s with heap := s2.heap, gens := s2.gens, drawn := s2.drawn, toks := s2.toks } :=
    I.call (ch := []) (Un.laid k hp new) (I.hok.laid k hp ⟨fits, out.toList, c, vals_of_strs hi, hg⟩) (by rw [g]; exact I.bare) (fun _ z => nomatch z)
  have e : s2 = { s with heap := s2.heap, gens := s2.gens, drawn := s2.drawn, toks := s2.toks } := by
    cases s2
    cases s
    cases o
    rfl
  rw [e]
  exact ⟨.ref p, _, J, rfl, q ys p nd so me new⟩
/-- sorted(set(l)), in any block -/
theorem cr_setTxP (P : Program) (w : World) (K : PySem.W.Frag) (hc : X.calm = true) (h1 : X.prog = P := by rfl) (h2 : X.w = w := by rfl) (h3 : X.K = K := by rfl) : CallR X (.type "set") (rSetTx P w K) := by
  subst h1 h2 h3
  exact cr_setTx hc
theorem cr_sortTxP (P : Program) (w : World) (hc : X.calm = true) (h1 : X.prog = P := by rfl) (h2 : X.w = w := by rfl) : CallR X (.builtin "sorted") (rSortTx P w) := by
  subst h1 h2
  exact cr_sortTx hc
end
end NW
namespace NW
open PySem PySem.Spec PyProof.Rows L2
open TL (tl)
open StX (pa_star)
abbrev s_flags_of : Stmt := topS 32
abbrev N_flags_of : List Str := ["statements", "statement"]
theorem sc_flags_of : FnScope N_flags_of ["statements"] (defScope s_flags_of) := ⟨rfl, rfl, rfl, by decide +kernel, rfl, by decide +kernel, by decide +kernel⟩
abbrev s_height_of : Stmt := topS 48
abbrev N_height_of : List Str := ["rows", "heights", "statement"]
theorem sc_height_of : FnScope N_height_of ["rows", "heights"] (defScope s_height_of) := ⟨rfl, rfl, rfl, by decide +kernel, rfl, by decide +kernel, by decide +kernel⟩
abbrev s_height_at : Stmt := topS 49
abbrev N_height_at : List Str := ["statement", "heights"]
theorem sc_height_at : FnScope N_height_at ["statement", "heights"] (defScope s_height_at) := ⟨rfl, rfl, rfl, by decide +kernel, rfl, by decide +kernel, by decide +kernel⟩
/-! ### words and flags of statements -/
def wd : St → Str
  | .field _ _ _ => "field"
  | .kind _ => "kind"
  | .on _ _ => "on"
  | .part _ => "part"
  | .iff _ _ _ => "if"
def arg : St → Str
  | .field f _ _ => f
  | .kind k => k
  | .on z _ => z
  | .part z => z
  | .iff z _ _ => z
def flS (t : St) : Option Str := match t with | .iff f _ _ => some f | _ => none
def flsL (l : List St) : List Str := l.filterMap flS
theorem wd_if (t : St) : (wd t = "if" ∧ flS t = some (arg t)) ∨ (¬ wd t = "if" ∧ flS t = none) := by
  cases t with
  | iff f b r => exact .inl ⟨rfl, rfl⟩
  | field f k r => exact .inr ⟨(show ¬ ("field" : Str) = "if" by decide +kernel), rfl⟩
  | kind k => exact .inr ⟨(show ¬ ("kind" : Str) = "if" by decide +kernel), rfl⟩
  | on z r => exact .inr ⟨(show ¬ ("on" : Str) = "if" by decide +kernel), rfl⟩
  | part z => exact .inr ⟨(show ¬ ("part" : Str) = "if" by decide +kernel), rfl⟩
theorem StAt.hd {H : Hp} {v : V} {t : St} (h : StAt H v t) : ∃ a xs, v = .ref a ∧ H a = some (.tup xs) ∧ xs[0]? = some (.str (wd t)) ∧ xs[1]? = some (.str (arg t)) := by
  cases h with
  | field e r => exact ⟨_, _, rfl, e, rfl, rfl⟩
  | kind e => exact ⟨_, _, rfl, e, rfl, rfl⟩
  | on e r => exact ⟨_, _, rfl, e, rfl, rfl⟩
  | part e => exact ⟨_, _, rfl, e, rfl, rfl⟩
  | iff e r => exact ⟨_, _, rfl, e, rfl, rfl⟩
theorem takeS {α : Type} {l : List α} {j : Nat} {z : α} (e : l[j]? = some z) : l.take (j + 1) = l.take j ++ [z] := by rw [List.take_add_one, e]; rfl
theorem AllAt.at {H : Hp} {vs : List V} {rows : List St} {i : Nat} {v : V} (h : AllAt H vs rows) (e : vs[i]? = some v) : ∃ t, rows[i]? = some t ∧ StAt H v t := by
  have hi : i < vs.length := by
    by_cases hi : i < vs.length
    · exact hi
    · rw [List.getElem?_eq_none (by omega)] at e
      cases e
  have hi2 : i < rows.length := by rw [← h.len]; exact hi
  obtain ⟨v', e', hv⟩ := h.get (List.getElem?_eq_getElem hi2)
  rw [e] at e'
  cases e'
  exact ⟨_, List.getElem?_eq_getElem hi2, hv⟩
/-! ### heights -/
mutual
def htS (hp : Str → Nat) : St → Nat
  | .field _ _ r => 1 + htR hp r
  | .kind _ => 1
  | .on _ r => 1 + htR hp r
  | .part p => 1 + hp p
  | .iff _ _ r => 1 + htR hp r
def htR (hp : Str → Nat) : List St → Nat
  | [] => 0
  | s :: r => max (htS hp s) (htR hp r)
end
mutual
def lvS : St → Nat
  | .field _ _ r => 1 + lvR r
  | .kind _ => 1
  | .on _ r => 1 + lvR r
  | .part _ => 1
  | .iff _ _ r => 1 + lvR r
def lvR : List St → Nat
  | [] => 0
  | s :: r => max (lvS s) (lvR r)
end
mutual
/-- all parts that are named in it are of D -/
def refS (D : Str → Prop) : St → Prop
  | .field _ _ r => refR D r
  | .kind _ => True
  | .on _ r => refR D r
  | .part p => D p
  | .iff _ _ r => refR D r
def refR (D : Str → Prop) : List St → Prop
  | [] => True
  | s :: r => refS D s ∧ refR D r
end
theorem htS_rows (hp : Str → Nat) {t : St} (h : ¬ wd t = "part") : htS hp t = 1 + htR hp t.rows := by
  cases t with
  | part p => exact absurd rfl h
  | kind k => rfl
  | field f k r => rfl
  | on z r => rfl
  | iff z b r => rfl
theorem lvS_rows (t : St) : lvS t = 1 + lvR t.rows := by cases t <;> rfl
theorem refS_rows {D : Str → Prop} {t : St} (h : refS D t) : refR D t.rows := by
  cases t with
  | part p => trivial
  | kind k => trivial
  | field f k r => exact h
  | on z r => exact h
  | iff z b r => exact h
theorem lvR_mem : ∀ {rows : List St} {t : St}, t ∈ rows → lvS t ≤ lvR rows
  | s :: r, t, m => by
    show lvS t ≤ max (lvS s) (lvR r)
    rcases List.mem_cons.mp m with rfl | m
    · omega
    · have := lvR_mem m
      omega
theorem refR_mem {D : Str → Prop} : ∀ {rows : List St} {t : St}, refR D rows → t ∈ rows → refS D t
  | s :: r, t, h, m => by
    rcases List.mem_cons.mp m with rfl | m
    · exact h.1
    · exact refR_mem h.2 m
theorem lvS_pos (t : St) : 1 ≤ lvS t := by rw [lvS_rows]; omega
theorem fold_max : ∀ (l : List Int) (n : Int), l.foldl max n = max n (l.foldl max 0) ∨ ∃ x ∈ n :: l, x < 0 := by
  intro l
  induction l with
  | nil => intro n; by_cases h : n < 0; exact .inr ⟨n, List.mem_cons_self, h⟩; exact .inl (by show n = max n 0; omega)
  | cons a l ih =>
    intro n
    by_cases h : n < 0
    · exact .inr ⟨n, List.mem_cons_self, h⟩
    · show l.foldl max (max n a) = max n (l.foldl max (max 0 a)) ∨ _
      rcases ih (max n a) with h1 | ⟨x, mx, hx⟩
      · rcases ih (max 0 a) with h2 | ⟨x, mx, hx⟩
        · left
          rw [h1, h2]
          omega
        · rcases List.mem_cons.mp mx with rfl | mx
          · omega
          · exact .inr ⟨x, List.mem_cons_of_mem _ (List.mem_cons_of_mem _ mx), hx⟩
      · rcases List.mem_cons.mp mx with rfl | mx
        · omega
        · exact .inr ⟨x, List.mem_cons_of_mem _ (List.mem_cons_of_mem _ mx), hx⟩
theorem mx_rows (hp : Str → Nat) : ∀ rows : List St, mxD 0 (rows.map fun t => ((htS hp t : Nat) : Int)) = ((htR hp rows : Nat) : Int)
  | [] => rfl
  | s :: r => by
    have ih := mx_rows hp r
    show (r.map fun t => ((htS hp t : Nat) : Int)).foldl max ((htS hp s : Nat) : Int) = ((max (htS hp s) (htR hp r) : Nat) : Int)
    have hr : (r.map fun t => ((htS hp t : Nat) : Int)).foldl max 0 = ((htR hp r : Nat) : Int) := by
      rw [← ih]
      cases r with
      | nil => rfl
      | cons a l =>
        show (l.map fun t => ((htS hp t : Nat) : Int)).foldl max (max 0 ((htS hp a : Nat) : Int)) = (l.map fun t => ((htS hp t : Nat) : Int)).foldl max ((htS hp a : Nat) : Int)
        rw [show max 0 ((htS hp a : Nat) : Int) = ((htS hp a : Nat) : Int) by omega]
    rcases fold_max (r.map fun t => ((htS hp t : Nat) : Int)) ((htS hp s : Nat) : Int) with h | ⟨x, mx, hx⟩
    · rw [h, hr]
      omega
    · rcases List.mem_cons.mp mx with rfl | mx
      · omega
      · obtain ⟨t, _, rfl⟩ := List.mem_map.mp mx
        omega
section
variable {P : Program} {w : World} {K : PySem.W.Frag} {mg : Str → Option Value} {base : Heap}
def spFlagsOf (K : PySem.W.Frag) : Sp := fun vs H Q _ => ∃ (a : Addr) (xs : List V) (rows : List St), vs = [.ref a] ∧ SqL K H a xs ∧ AllAt H xs rows ∧ rows.length < 64 ∧
  ∀ ys p H', ys.Nodup → sortedS ys = true → (∀ z, z ∈ ys ↔ z ∈ flsL rows) → Same H H' → H p = none → H' p = some (.lst (ys.map V.str)) → Q (.ref p) H'
theorem ok_flags_of {f : Addr} {fd : FuncData} (D : Df K mg "flags_of" s_flags_of f fd ["statements"]) (T : Nms mg) : FnOk P w K mg base CX0 1 f fd ["statements"] (spFlagsOf K) := by
  refine D.F.ok sc_flags_of (fun vs H Q E h => ?_) (fun cdv A outer s H vs Q E hr h => ?_)
  · obtain ⟨a, xs, rows, rfl, _⟩ := h
    rfl
  · obtain ⟨a, xs, rows, rfl, ha, al, few, q⟩ := h
    refine ⟨_, (pss_one (ps_ret (pe_callB (cr_sortTxP P w rfl) (by rfl) T.n_sorted (by decide +kernel) (pa_cons (pe_callTy (cr_setTxP P w K rfl) (by rfl) T.n_set (by decide +kernel) (pa_cons (pe_lc (own := [("statement", 1)]) (g := (gName 1)) rfl sc_flags_of.nd (pi_list (pv 0)) (blkOk_by (own := [("statement", 1)]) (N := N_flags_of) (sc := defScope s_flags_of) (by decide +kernel)) (fun _ _ _ _ _ => (pg_name (i := 1) sc_flags_of.nd rfl (.inl rfl))) (fun _ _ _ _ _ => pts_one (pt_cmpR op_eq (pe_ix (ix_tupK K) (pv 1) pe_int (fun _ _ => rfl)) pe_str (nomark _))) (fun _ _ _ _ _ => (pe_ix (ix_tupK K) (pv 1) pe_int (fun _ _ => rfl)))) pa_nil)) pa_nil)))), ?_⟩
    have lt : ∀ n : Nat, n ≤ 1000 → n < sizeLine := fun n h => Nat.lt_of_le_of_lt h (by decide)
    have keep : ∀ {H' : Hp}, Same H H' → SqL K H' a xs := fun s => by
      rcases ha with (h | ⟨o, h⟩) | h
      · exact .inl (.inl (s _ _ h))
      · exact .inl (.inr ⟨o, s _ _ h⟩)
      · exact .inr h
    refine ⟨.ref a, rfl, a, rfl, ⟨_, ha⟩, fun Da nD => ?_⟩
    refine lc_it (walk_list (xs := xs)) (fun i H' => Same H H' ∧ H' Da = some (.lst ((flsL (rows.take i)).map V.str))) ⟨same_new nD, upd_same⟩ (fun i H2 _ h => keep h.1) ?_ ?_
    · rintro i y H2 H3 hi ⟨s2, e2⟩ ⟨rfl, ey⟩
      obtain ⟨t, et, ht⟩ := al.at ey
      obtain ⟨b, zs, rfl, hb, z0, z1⟩ := (ht.same s2).hd
      have hl : (flsL (rows.take i)).length ≤ 1000 := by
        have := List.length_filterMap_le flS (rows.take i)
        have h2 := List.length_take_le i rows
        have h3 : (rows.take i).length ≤ rows.length := by rw [List.length_take]; omega
        unfold flsL
        omega
      have efl : flsL (rows.take (i + 1)) = flsL (rows.take i) ++ [t].filterMap flS := by
        unfold flsL
        rw [takeS et, List.filterMap_append]
      rcases wd_if t with ⟨w1, f1⟩ | ⟨w1, f1⟩
      · refine ⟨rfl, .ref b, rfl, b, zs, 0, _, rfl, rfl, .inl (.inl hb), atI_nat (j := 0) z0, rfl, true, blT (by rw [w1]), iteT ⟨.ref b, rfl, b, zs, 1, _, rfl, rfl, .inl (.inl hb), atI_nat (j := 1) z1, _, e2, lt _ (by rw [List.length_map]; exact hl), same_upd s2 nD, ?_⟩⟩
        rw [upd_same, efl, List.map_append, List.filterMap_cons, f1]
        rfl
      · refine ⟨rfl, .ref b, rfl, b, zs, 0, _, rfl, rfl, .inl (.inl hb), atI_nat (j := 0) z0, rfl, false, blF (fun e => w1 (V.str.inj e)), iteF ⟨s2, ?_⟩⟩
        rw [efl, List.filterMap_cons, f1]
        show _ = some (HO.lst ((flsL (rows.take i) ++ []).map V.str))
        rw [List.append_nil]
        exact e2
    · rintro H2 ⟨s2, e2⟩
      have hx : xs.length = rows.length := al.len
      rw [hx, List.take_length] at e2
      have hl : (flsL rows).length < 64 := by
        have := List.length_filterMap_le flS rows
        unfold flsL
        omega
      refine ⟨Da, flsL rows, rfl, SqL.of e2, by omega, fun p m np hm => ⟨p, _, m, rfl, upd_same, by omega, fun ys p2 nd so me np2 => ?_⟩⟩
      have s3 := s2.trans (same_new (o := TxO P w p (fun z => decide (z ∈ flsL rows)) m) np)
      exact q ys p2 _ nd so (fun z => (me z).trans (by simp)) (s3.trans (same_new np2)) (s3.free np2) upd_same
end
end NW
namespace NW
open PySem PySem.Spec PyProof.Rows L2
open TL (tl)
open StX (pa_star)

mutual
/-- few rows everywhere inside -/
def smS : St → Prop
  | .field _ _ r => r.length ≤ 6 ∧ smR r
  | .kind _ => True
  | .on _ r => r.length ≤ 6 ∧ smR r
  | .part _ => True
  | .iff _ _ r => r.length ≤ 6 ∧ smR r
def smR : List St → Prop
  | [] => True
  | s :: r => smS s ∧ smR r
end
theorem smS_rows {t : St} (h : smS t) : t.rows.length ≤ 6 ∧ smR t.rows := by
  cases t with
  | part p => exact ⟨Nat.zero_le _, trivial⟩
  | kind k => exact ⟨Nat.zero_le _, trivial⟩
  | field f k r => exact h
  | on z r => exact h
  | iff z b r => exact h
theorem smR_mem : ∀ {rows : List St} {t : St}, smR rows → t ∈ rows → smS t
  | s :: r, t, h, m => by
    rcases List.mem_cons.mp m with rfl | m
    · exact h.1
    · exact smR_mem h.2 m
section
variable {P : Program} {w : World} {K : PySem.W.Frag} {mg : Str → Option Value} {base : Heap}
def spHeightAt (n : Nat) : Sp := fun vs H Q _ => ∃ (v : V) (t : St) (hd : Addr) (kvs : List (Key × V)) (D : Str → Prop) (hp : Str → Nat), vs = [v, .ref hd] ∧ StAt H v t ∧ smS t ∧ lvS t ≤ n ∧ refS D t ∧ H hd = some (.dK kvs) ∧ (∀ p, D p → valV kvs (Sum.inr p) = some (.int ((hp p : Nat) : Int))) ∧ ∀ H', Same H H' → Q (.int ((htS hp t : Nat) : Int)) H'
def spHeightOf (n : Nat) : Sp := fun vs H Q _ => ∃ (r : V) (rows : List St) (hd : Addr) (kvs : List (Key × V)) (D : Str → Prop) (hp : Str → Nat), vs = [r, .ref hd] ∧ RowAt H r rows ∧ rows.length ≤ 6 ∧ smR rows ∧ lvR rows ≤ n ∧ refR D rows ∧ H hd = some (.dK kvs) ∧ (∀ p, D p → valV kvs (Sum.inr p) = some (.int ((hp p : Nat) : Int))) ∧ ∀ H', Same H H' → Q (.int ((htR hp rows : Nat) : Int)) H'
theorem ok_height_of {f f1 : Addr} {fd fd1 : FuncData} {n : Nat} (D : Df K mg "height_of" s_height_of f fd ["rows", "heights"]) (Dat : Df K mg "height_at" s_height_at f1 fd1 ["statement", "heights"]) (Gat : FnOk P w K mg base CX0 (2 * n + 1) f1 fd1 ["statement", "heights"] (spHeightAt n)) (T : Nms mg) (hmax : mg "max" = none) :
    FnOk P w K mg base CX0 (2 * n + 2) f fd ["rows", "heights"] (spHeightOf n) := by
  refine D.F.ok sc_height_of (fun vs H Q E h => ?_) (fun cdv A outer s H vs Q E hr h => ?_)
  · obtain ⟨r, rows, hd, kvs, D, hp, rfl, _⟩ := h
    rfl
  · obtain ⟨r, rows, hd, kvs, DD, hp, rfl, hrow, few, sm, lv, rf, hhd, hv, q⟩ := h
    have hu := hu_of hr
    refine ⟨_, (pss_one (ps_ret (pe_callBK (cr_maxDef rfl hr.units) (by rfl) hmax (by decide +kernel) (pa_cons (pe_lc (own := [("statement", 2)]) (g := (gName 2)) (tt := tYes) rfl sc_height_of.nd (pi_tup (pv 0)) (blkOk_by (own := [("statement", 2)]) (N := N_height_of) (sc := defScope s_height_of) (by decide +kernel)) (fun _ _ _ _ _ => (pg_name (i := 2) sc_height_of.nd rfl (.inl rfl))) (fun _ _ _ _ _ => pts_nil) (fun _ _ _ _ _ => (pe_call Gat (hr.mono (by omega)) (by rfl) Dat.g Dat.F.kp Dat.b .nil pass0 (pa_cons (pv 2) (pa_cons (pv 1) pa_nil))))) pa_nil) (pk_cons pe_int pk_nil)))), ?_⟩
    have lt : ∀ n : Nat, n ≤ 1000 → n < sizeLine := fun n h => Nat.lt_of_le_of_lt h (by decide)
    obtain ⟨a, xs, rfl, ha, al⟩ := hrow.tup
    have lx := al.len
    refine ⟨.ref a, rfl, a, rfl, ⟨_, .inl (.inl ha)⟩, fun Da nD => ?_⟩
    refine lc_it (walk_tup (xs := xs)) (fun i H' => Same H H' ∧ H' Da = some (.lst (((rows.take i).map fun t => ((htS hp t : Nat) : Int)).map V.int))) ⟨same_new nD, upd_same⟩ (fun i H2 _ h => .inl (.inl (h.1 _ _ ha))) ?_ ?_
    · rintro i y H2 H3 hi ⟨s2, e2⟩ ⟨rfl, ey⟩
      obtain ⟨t, et, ht⟩ := al.at ey
      have mt := List.mem_of_getElem? et
      refine ⟨rfl, lcT ⟨y, rfl, .ref hd, rfl, y, t, hd, kvs, DD, hp, rfl, ht.same s2, smR_mem sm mt, Nat.le_trans (lvR_mem mt) lv, refR_mem rf mt, s2 _ _ hhd, hv, fun H4 s4 => ⟨_, s4 _ _ e2, lt _ (by rw [List.length_map, List.length_map, List.length_take]; omega), same_upd (s2.trans s4) nD, ?_⟩⟩⟩
      rw [upd_same, takeS et, List.map_append, List.map_append]
      rfl
    · rintro H2 ⟨s2, e2⟩
      rw [lx, List.take_length] at e2
      refine ⟨Da, _, 0, rfl, rfl, SqL.of e2, ?_⟩
      rw [mx_rows]
      exact q _ s2
theorem ok_height_at {f f1 f2 : Addr} {fd fd1 fd2 : FuncData} {n : Nat} (D : Df K mg "height_at" s_height_at f fd ["statement", "heights"]) (Dof : Df K mg "height_of" s_height_of f1 fd1 ["rows", "heights"]) (Gof : FnOk P w K mg base CX0 (2 * n + 2) f1 fd1 ["rows", "heights"] (spHeightOf n))
    (D_inner_rows : Df K mg "inner_rows" s_inner_rows f2 fd2 ["statement"]) (T : Nms mg) : FnOk P w K mg base CX0 (2 * (n + 1) + 1) f fd ["statement", "heights"] (spHeightAt (n + 1)) := by
  have G_inner_rows : FnOk P w K mg base CX0 1 f2 fd2 ["statement"] spInnerRows := ok_inner_rows D_inner_rows T
  refine D.F.ok sc_height_at (fun vs H Q E h => ?_) (fun cdv A outer s H vs Q E hr h => ?_)
  · obtain ⟨v, t, hd, kvs, D, hp, rfl, _⟩ := h
    rfl
  · obtain ⟨v, t, hd, kvs, DD, hp, rfl, hv, sm, lv, rf, hhd, hh, q⟩ := h
    have hu := hu_of hr
    refine ⟨_, (pss_cons (ps_if (pt_cmpR op_eq (pe_ix ix_tup (pv 0) pe_int (fun _ _ => rfl)) pe_str (nomark _))
       (pss_one (ps_ret (pe_op op_add pe_int (pe_dget hu (pv 1) (pe_ix ix_tup (pv 0) pe_int (fun _ _ => rfl)) (fun _ _ => rfl)))))
       pss_nil)
      (pss_one (ps_ret (pe_op op_add pe_int (pe_call Gof (hr.mono (by omega)) (by rfl) Dof.g Dof.F.kp Dof.b .nil pass0 (pa_cons (pe_call G_inner_rows (hr.mono (by omega)) (by rfl) D_inner_rows.g D_inner_rows.F.kp D_inner_rows.b .nil pass0 (pa_cons (pv 0) pa_nil)) (pa_cons (pv 1) pa_nil))))))), ?_⟩
    obtain ⟨a, xs, rfl, ha, z0, z1⟩ := hv.hd
    by_cases hw : wd t = "part"
    · have ht : ∃ p, t = .part p := by
        cases t with
        | part p => exact ⟨p, rfl⟩
        | field f k r => exact absurd hw (show ¬ ("field" : Str) = "part" by decide +kernel)
        | kind k => exact absurd hw (show ¬ ("kind" : Str) = "part" by decide +kernel)
        | on z r => exact absurd hw (show ¬ ("on" : Str) = "part" by decide +kernel)
        | iff z b r => exact absurd hw (show ¬ ("if" : Str) = "part" by decide +kernel)
      obtain ⟨p, rfl⟩ := ht
      refine ⟨.ref a, rfl, a, xs, 0, _, rfl, rfl, .inl (.inl ha), atI_nat (j := 0) z0, rfl, true, blT rfl, iteT ⟨.ref hd, rfl, .ref a, rfl, a, xs, 1, _, rfl, rfl, .inl (.inl ha), atI_nat (j := 1) z1, hd, _, rfl, .inl ⟨kvs, .inr p, .inl hhd, rfl, (hh p rf).symm⟩, _, _, rfl, rfl, ?_⟩⟩
      have := q H (Same.refl _)
      rw [show ((htS hp (.part p) : Nat) : Int) = 1 + ((hp p : Nat) : Int) by show ((1 + hp p : Nat) : Int) = _; omega] at this
      exact this
    · refine ⟨.ref a, rfl, a, xs, 0, _, rfl, rfl, .inl (.inl ha), atI_nat (j := 0) z0, rfl, false, blF (fun e => hw (V.str.inj e)), iteF ⟨.ref a, rfl, .ref a, t, rfl, hv, fun r H1 s1 hr1 => ?_⟩⟩
      rw [lvS_rows] at lv
      refine ⟨.ref hd, rfl, r, t.rows, hd, kvs, DD, hp, rfl, hr1, (smS_rows sm).1, (smS_rows sm).2, by omega, refS_rows rf, s1 _ _ hhd, hh, fun H2 s2 => ⟨_, _, rfl, rfl, ?_⟩⟩
      have := q H2 (s1.trans s2)
      rw [show ((htS hp t : Nat) : Int) = 1 + ((htR hp t.rows : Nat) : Int) by rw [htS_rows hp hw]; omega] at this
      exact this
theorem ok_height_zero {f : Addr} {fd : FuncData} (D : Df K mg "height_at" s_height_at f fd ["statement", "heights"]) : FnOk P w K mg base CX0 1 f fd ["statement", "heights"] (spHeightAt 0) := by
  refine D.F.ok sc_height_at (fun vs H Q E h => ?_) (fun cdv A outer s H vs Q E hr h => ?_)
  · obtain ⟨v, t, hd, kvs, D, hp, rfl, _⟩ := h
    rfl
  · obtain ⟨v, t, hd, kvs, DD, hp, rfl, hv, sm, lv, _⟩ := h
    have := lvS_pos t
    omega
theorem ok_heights {f f1 f2 : Addr} {fd fd1 fd2 : FuncData} (D : Df K mg "height_of" s_height_of f fd ["rows", "heights"]) (Dat : Df K mg "height_at" s_height_at f1 fd1 ["statement", "heights"]) (D_inner_rows : Df K mg "inner_rows" s_inner_rows f2 fd2 ["statement"]) (T : Nms mg) (hmax : mg "max" = none) :
    ∀ n : Nat, FnOk P w K mg base CX0 (2 * n + 2) f fd ["rows", "heights"] (spHeightOf n) ∧ FnOk P w K mg base CX0 (2 * n + 1) f1 fd1 ["statement", "heights"] (spHeightAt n)
  | 0 => ⟨ok_height_of D Dat (ok_height_zero Dat) T hmax, ok_height_zero Dat⟩
  | n + 1 => by
    have ih := (ok_heights D Dat D_inner_rows T hmax n).1
    have h1 := ok_height_at (n := n) Dat D ih D_inner_rows T
    exact ⟨ok_height_of D Dat h1 T hmax, h1⟩
end
end NW
namespace NW
open PySem PySem.Spec PyProof.Rows L2
open TL (tl)
open StX (pa_star)
abbrev s_is_part_table : Stmt := topS 40
abbrev N_is_part_table : List Str := ["parts", "name"]
theorem sc_is_part_table : FnScope N_is_part_table ["parts"] (defScope s_is_part_table) := ⟨rfl, rfl, rfl, by decide +kernel, rfl, by decide +kernel, by decide +kernel⟩
abbrev s_is_part : Stmt := topS 27
abbrev N_is_part : List Str := ["schema", "part"]
theorem sc_is_part : FnScope N_is_part ["schema", "part"] (defScope s_is_part) := ⟨rfl, rfl, rfl, by decide +kernel, rfl, by decide +kernel, by decide +kernel⟩
abbrev s_heights_of_parts : Stmt := topS 47
abbrev N_heights_of_parts : List Str := ["parts", "heights", "turn", "name"]
theorem sc_heights_of_parts : FnScope N_heights_of_parts ["parts"] (defScope s_heights_of_parts) := ⟨rfl, rfl, rfl, by decide +kernel, rfl, by decide +kernel, by decide +kernel⟩
/-- a part: its name, its tuple, its base, its rows -/
structure PRow where
  nm : Str
  t : Addr
  z : Str
  r : V
  rows : List St
def ptv (ps : List PRow) : List (Key × V) := ps.map fun p => ((Sum.inr p.nm : Key), V.ref p.t)
def PRow.At (H : Hp) (p : PRow) : Prop := H p.t = some (.tup [.str p.z, p.r]) ∧ RowAt H p.r p.rows
theorem PRow.At.same {H H' : Hp} {p : PRow} (s : Same H H') (h : p.At H) : p.At H' := ⟨s _ _ h.1, h.2.same s⟩
theorem PRow.At.grO {H H' : Hp} {b : Addr} {p : PRow} (hO : Oth H b) (g : Gr b H H') (h : p.At H) : p.At H' := ⟨g _ _ (hO.net h.1) h.1, h.2.grO hO g⟩
theorem ptv_keys (ps : List PRow) : (ptv ps).map (·.1) = (ps.map (·.nm)).map Sum.inr := keys_map ps (·.nm) (V.ref ·.t)
theorem ptv_val {ps : List PRow} (nd : (ps.map (·.nm)).Nodup) {p : PRow} (m : p ∈ ps) : valV (ptv ps) (Sum.inr p.nm) = some (.ref p.t) := valV_map (f := fun p : PRow => p.nm) (g := fun p : PRow => V.ref p.t) nd m
theorem ptv_at {ps : List PRow} {i : Nat} {k : Key} {v : V} (e : (ptv ps)[i]? = some (k, v)) : ∃ p, ps[i]? = some p ∧ k = Sum.inr p.nm ∧ v = .ref p.t := by
  unfold ptv at e
  rw [List.getElem?_map] at e
  cases h : ps[i]? with
  | none => rw [h] at e; cases e
  | some p => rw [h] at e; cases e; exact ⟨p, rfl, rfl, rfl⟩
/-- heights as a dict -/
def htv (ps : List PRow) (h : Str → Nat) : List (Key × V) := ps.map fun p => ((Sum.inr p.nm : Key), V.int ((h p.nm : Nat) : Int))
theorem htv_val {ps : List PRow} (nd : (ps.map (·.nm)).Nodup) {h : Str → Nat} {p : PRow} (m : p ∈ ps) : valV (htv ps h) (Sum.inr p.nm) = some (.int ((h p.nm : Nat) : Int)) := valV_map (f := fun p : PRow => p.nm) (g := fun p : PRow => V.int ((h p.nm : Nat) : Int)) nd m
/-- the heights after a number of turns -/
def hts (ps : List PRow) : Nat → Str → Nat
  | 0 => fun _ => 0
  | k + 1 => fun n => match ps.find? fun p => decide (p.nm = n) with | some p => htR (hts ps k) p.rows | none => 0
theorem hts_of {ps : List PRow} (nd : (ps.map (·.nm)).Nodup) {p : PRow} (m : p ∈ ps) (k : Nat) : hts ps (k + 1) p.nm = htR (hts ps k) p.rows := by
  have : ps.find? (fun q => decide (q.nm = p.nm)) = some p := by
    induction ps with
    | nil => cases m
    | cons x r ih =>
      have nd' := List.nodup_cons.mp nd
      rcases List.mem_cons.mp m with rfl | m
      · rw [List.find?_cons_of_pos (by simp)]
      · have : ¬ x.nm = p.nm := fun z => nd'.1 (List.mem_map.mpr ⟨p, m, z.symm⟩)
        rw [List.find?_cons_of_neg (by simpa using this)]
        exact ih nd'.2 m
  show (match ps.find? fun q => decide (q.nm = p.nm) with | some q => htR (hts ps k) q.rows | none => 0) = _
  rw [this]
structure PartOk (bs : List Str) (ps : List PRow) : Prop where
  n4 : ps.length ≤ 4
  nd : (ps.map (·.nm)).Nodup
  nm : ∀ p ∈ ps, IsName p.nm
  zb : ∀ p ∈ ps, p.z ∈ bs ∧ p.z ∉ [("number" : Str), ("text" : Str)]
  r6 : ∀ p ∈ ps, p.rows.length ≤ 6 ∧ smR p.rows ∧ lvR p.rows ≤ 5
  rf : ∀ p ∈ ps, refR (fun n => n ∈ ps.map (·.nm)) p.rows
section
variable {P : Program} {w : World} {K : PySem.W.Frag} {mg : Str → Option Value} {base : Heap}
def spPartTable : Sp := fun vs H Q _ => ∃ (pa : Addr) (ps : List PRow), vs = [.ref pa] ∧ H pa = some (.dK (ptv ps)) ∧ ps.length ≤ 4 ∧ (∀ p ∈ ps, IsName p.nm) ∧ ∀ H', Same H H' → Q (.bl true) H'
theorem ok_is_part_table {f f1 : Addr} {fd fd1 : FuncData} {tk : Tok} (D : Df K mg "is_part_table" s_is_part_table f fd ["parts"]) (D_is_name : Df K mg "is_name" s_is_name f1 fd1 ["word"]) (gP : mg "MOST_PARTS" = some (.int 4 tk)) (T : Nms mg) (C : Cst K mg) : FnOk P w K mg base CX0 2 f fd ["parts"] spPartTable := by
  have G_is_name : FnOk P w K mg base CX0 1 f1 fd1 ["word"] spIsName := ok_is_name D_is_name T C
  refine D.F.ok sc_is_part_table (fun vs H Q E h => ?_) (fun cdv A outer s H vs Q E hr h => ?_)
  · obtain ⟨pa, ps, rfl, _⟩ := h
    rfl
  · obtain ⟨pa, ps, rfl, hpa, n4, nm, q⟩ := h
    refine ⟨_, (pss_one (ps_ret (pe_and (pe_callB call_isi (by rfl) T.n_isinstance (by decide +kernel) (pa_cons (pv 0) (pa_cons (pe_bltn (v := .ty "dict") (by rfl) T.n_dict (by decide +kernel) rfl) pa_nil))) (pe_and (pe_cmpR op_le (pe_callB call_lenD (by rfl) T.n_len (by decide +kernel) (pa_cons (pv 0) pa_nil)) (pe_glob (v := .int 4) (by rfl) gP ⟨_, rfl⟩) (nomark _)) (pe_one (pe_callB (cr_all rfl) (by rfl) T.n_all (by decide +kernel) (pa_cons (pe_lock (pe_lc (own := [("name", 1)]) (g := (gName 1)) (tt := tYes) rfl sc_is_part_table.nd (pi_keys (pv 0)) (blkOk_by (own := [("name", 1)]) (N := N_is_part_table) (sc := defScope s_is_part_table) (by decide +kernel)) (fun _ _ _ _ _ => (pg_name (i := 1) sc_is_part_table.nd rfl (.inl rfl))) (fun _ _ _ _ _ => pts_nil) (fun _ _ _ _ _ => (pe_call G_is_name (hr.mono (by decide)) (by rfl) D_is_name.g D_is_name.F.kp D_is_name.b .nil pass0 (pa_cons (pv 1) pa_nil))))) pa_nil))))))), ?_⟩
    have hl : (ptv ps).length = ps.length := List.length_map ..
    refine ⟨.ref pa, rfl, _, _, _, _, true, rfl, .ty "dict", .base (.dK hpa), kit_ty (by decide +kernel), true, rfl, iteT ⟨.ref pa, rfl, pa, _, rfl, hpa, _, _, rfl, rfl, true, blT (by rw [hl]; omega), iteT ?_⟩⟩
    refine ⟨pa, .dK (ptv ps), hpa, trivial, fun od => ⟨.ref pa, rfl, pa, od, rfl, .inl ⟨ptv ps, upd_same, fun Da nD => ?_⟩⟩⟩
    refine lc_all walk_keys (fun i x => ∃ p, ps[i]? = some p ∧ x = .str p.nm) ?_ (fun H sm => sm _ _ upd_same) nD (by omega) (fun _ => rfl) ?_ ?_
    · rintro i H x H' hi ⟨rfl, k, v, e, rfl⟩
      obtain ⟨p, ep, rfl, rfl⟩ := ptv_at e
      exact ⟨rfl, p, ep, rfl⟩
    · rintro i x H2 Q2 hi ⟨p, ep, rfl⟩ sm k
      exact ⟨.str p.nm, rfl, p.nm, rfl, nm p (List.mem_of_getElem? ep), fun H3 s3 => k H3 s3⟩
    · intro H2 sm e2
      refine ⟨sm _ _ upd_same, Da, _, rfl, SqL.of (by rw [upd_ne (fun z => by rw [z, upd_same] at nD; cases nD)]; exact e2), ?_⟩
      rw [all_true]
      exact q _ (same_unlock hpa sm)
def spIsPart (C : Addr) : Sp := fun vs H Q _ => ∃ (x : Addr) (p : PRow) (ks : List KRow) (fs : List FRow) (us : List URow) (root : Str), vs = [.ref x, .ref p.t] ∧ BuiltAt C H x ks fs us root ∧ SchOk ks fs us root ∧ p.At H ∧ p.z ∈ bsOf ks fs us ∧ p.z ∉ [("number" : Str), ("text" : Str)] ∧ p.rows.length ≤ 6 ∧ ∀ H', Same H H' → Q (.bl true) H'
theorem ok_is_part {f f1 f2 C : Addr} {fd fd1 fd2 : FuncData} (D : Df K mg "is_part" s_is_part f fd ["schema", "part"]) (D_has_members : Df K mg "has_members" s_has_members f1 fd1 ["schema", "base"]) (G_has_members : FnOk P w K mg base CX0 3 f1 fd1 ["schema", "base"] (spHasMembers C))
    (D_is_rows : Df K mg "is_rows" s_is_rows f2 fd2 ["rows"]) (G_is_rows : FnOk P w K mg base CX0 1 f2 fd2 ["rows"] spIsRows) (T : Nms mg) : FnOk P w K mg base CX0 4 f fd ["schema", "part"] (spIsPart C) := by
  refine D.F.ok sc_is_part (fun vs H Q E h => ?_) (fun cdv A outer s H vs Q E hr h => ?_)
  · obtain ⟨x, p, ks, fs, us, root, rfl, _⟩ := h
    rfl
  · obtain ⟨x, p, ks, fs, us, root, rfl, Bt, ok, hp, zb, zl, r6, q⟩ := h
    refine ⟨_, (pss_one (ps_ret (pe_and (pe_callB call_isi (by rfl) T.n_isinstance (by decide +kernel) (pa_cons (pv 1) (pa_cons (pe_bltn (v := .ty "tuple") (by rfl) T.n_tuple (by decide +kernel) rfl) pa_nil))) (pe_and (pe_cmpR op_eq (pe_callB call_len_seq (by rfl) T.n_len (by decide +kernel) (pa_cons (pv 1) pa_nil)) pe_int (nomark _)) (pe_and (pe_call G_has_members (hr.mono (by decide)) (by rfl) D_has_members.g D_has_members.F.kp D_has_members.b .nil pass0 (pa_cons (pv 0) (pa_cons (pe_ix ix_tup (pv 1) pe_int (fun _ _ => rfl)) pa_nil))) (pe_one (pe_call G_is_rows (hr.mono (by decide)) (by rfl) D_is_rows.g D_is_rows.F.kp D_is_rows.b .nil pass0 (pa_cons (pe_ix ix_tup (pv 1) pe_int (fun _ _ => rfl)) pa_nil)))))))), ?_⟩
    refine ⟨.ref p.t, rfl, _, _, _, _, true, rfl, .ty "tuple", .base (.tup hp.1), kit_ty (by decide +kernel), true, rfl, iteT ⟨.ref p.t, rfl, p.t, _, rfl, .inr (.inl (.inl hp.1)), rfl, true, blT rfl, iteT ?_⟩⟩
    refine ⟨.ref x, rfl, .ref p.t, rfl, p.t, _, 0, _, rfl, rfl, .inl (.inl hp.1), atI_nat (j := 0) rfl, x, p.z, ks, fs, us, root, rfl, Bt, ok.k1, ok.f1, ok.u1, fun H1 s1 => ?_⟩
    rw [decide_eq_true ⟨zb, zl⟩]
    have hp1 := hp.same s1
    refine ⟨true, rfl, iteT ⟨.ref p.t, rfl, p.t, _, 1, _, rfl, rfl, .inl (.inl hp1.1), atI_nat (j := 1) rfl, p.r, p.rows, rfl, hp1.2, ?_⟩⟩
    rw [decide_eq_true r6]
    exact q _ s1
end
end NW
namespace NW
open PySem PySem.Spec PyProof.Rows L2
open TL (tl)
open StX (pa_star)

/-- tuples stay -/
def Tk (H H' : Hp) : Prop := ∀ a xs, H a = some (.tup xs) → H' a = some (.tup xs)
theorem Same.tk {H H' : Hp} (s : Same H H') : Tk H H' := fun _ _ e => s _ _ e
theorem Tk.upd {H : Hp} {a : Addr} {o o' : HO} (e : H a = some o) (n : ∀ xs, o ≠ .tup xs) : Tk H (upd H a o') := fun b xs h => by rw [upd_ne (ne_of h e fun z => n _ z.symm)]; exact h
theorem Tk.trans {H1 H2 H3 : Hp} (x : Tk H1 H2) (y : Tk H2 H3) : Tk H1 H3 := fun a xs e => y a xs (x a xs e)
mutual
theorem StAt.tk {H H' : Hp} (k : Tk H H') : ∀ {v : V} {t : St}, StAt H v t → StAt H' v t
  | _, _, .field e r => .field (k _ _ e) (r.tk k)
  | _, _, .kind e => .kind (k _ _ e)
  | _, _, .on e r => .on (k _ _ e) (r.tk k)
  | _, _, .part e => .part (k _ _ e)
  | _, _, .iff e r => .iff (k _ _ e) (r.tk k)
theorem RowAt.tk {H H' : Hp} (k : Tk H H') : ∀ {v : V} {t : List St}, RowAt H v t → RowAt H' v t
  | _, _, .mk e r => .mk (k _ _ e) (r.tk k)
theorem AllAt.tk {H H' : Hp} (k : Tk H H') : ∀ {v : List V} {t : List St}, AllAt H v t → AllAt H' v t
  | _, _, .nil => .nil
  | _, _, .cons h t => .cons (h.tk k) (t.tk k)
end
theorem PRow.At.tk {H H' : Hp} {p : PRow} (k : Tk H H') (h : p.At H) : p.At H' := ⟨k _ _ h.1, h.2.tk k⟩
theorem htv_put {ps : List PRow} {h : Str → Nat} {p : PRow} {i : Nat} (nd : (ps.map (·.nm)).Nodup) (e : ps[i]? = some p) : putK (htv (ps.take i) h) (Sum.inr p.nm) (.int ((h p.nm : Nat) : Int)) = htv (ps.take (i + 1)) h := by
  have hn : p.nm ∉ (ps.take i).map (fun p : PRow => p.nm) := fun m => by
    have eB : ps = ps.take (i + 1) ++ ps.drop (i + 1) := (List.take_append_drop _ _).symm
    rw [takeS e] at eB
    rw [eB, List.map_append, List.map_append] at nd
    exact (List.nodup_append.mp (List.nodup_append.mp nd).1).2.2 _ m _ (List.mem_singleton.mpr rfl) rfl
  have := put_snoc (f := fun p : PRow => p.nm) (g := fun p : PRow => V.int ((h p.nm : Nat) : Int)) (rs := ps.take i) (r := p) hn
  rw [takeS e]
  exact this
section
variable {P : Program} {w : World} {K : PySem.W.Frag} {mg : Str → Option Value} {base : Heap}
def spHeightsOfParts : Sp := fun vs H Q _ => ∃ (pa : Addr) (ps : List PRow) (bs : List Str), vs = [.ref pa] ∧ H pa = some (.dK (ptv ps)) ∧ (∀ p ∈ ps, p.At H) ∧ PartOk bs ps ∧ ∀ d H', Same H H' → H d = none → H' d = some (.dK (htv ps (hts ps ps.length))) → Q (.ref d) H'
theorem ok_heights_of_parts {f f1 : Addr} {fd fd1 : FuncData} (D : Df K mg "heights_of_parts" s_heights_of_parts f fd ["parts"]) (D_height_of : Df K mg "height_of" s_height_of f1 fd1 ["rows", "heights"]) (G_height_of : FnOk P w K mg base CX0 12 f1 fd1 ["rows", "heights"] (spHeightOf 5)) (T : Nms mg) :
    FnOk P w K mg base CX0 13 f fd ["parts"] spHeightsOfParts := by
  refine D.F.ok sc_heights_of_parts (fun vs H Q E h => ?_) (fun cdv A outer s H vs Q E hr h => ?_)
  · obtain ⟨pa, ps, bs, rfl, _⟩ := h
    rfl
  · obtain ⟨pa, ps, bs, rfl, hpa, at_, ok, q⟩ := h
    have hu := hu_of hr
    refine ⟨_, (pss_cons (ps_set (i := 1) sc_heights_of_parts.nd rfl (.inr rfl) (pe_lock (pe_dc (own := [("name", 3)]) (g := (gName 3)) (tt := tYes) rfl sc_heights_of_parts.nd (pi_keys (pv 0)) (blkOk_by (own := [("name", 3)]) (N := N_heights_of_parts) (sc := defScope s_heights_of_parts) (by decide +kernel)) (fun _ _ _ _ _ => (pg_name (i := 3) sc_heights_of_parts.nd rfl (.inl rfl))) (fun _ _ _ _ _ => pts_nil) (fun _ _ _ _ _ => (pv 3)) (fun _ _ _ _ _ => pe_int))))
      (pss_cons (ps_for PassesOwn.never rfl (pi_range1 (by rfl) T.n_range (pa_cons (pe_callB call_lenD (by rfl) T.n_len (by decide +kernel) (pa_cons (pv 0) pa_nil)) pa_nil)) (pg_name (i := 2) sc_heights_of_parts.nd rfl (.inl rfl))
       (pss_one (ps_set (i := 1) sc_heights_of_parts.nd rfl (.inr rfl) (pe_lock (pe_dc (own := [("name", 3)]) (g := (gName 3)) (tt := tYes) rfl sc_heights_of_parts.nd (pi_keys (pv 0)) (blkOk_by (own := [("name", 3)]) (N := N_heights_of_parts) (sc := defScope s_heights_of_parts) (by decide +kernel)) (fun _ _ _ _ _ => (pg_name (i := 3) sc_heights_of_parts.nd rfl (.inl rfl))) (fun _ _ _ _ _ => pts_nil) (fun _ _ _ _ _ => (pv 3)) (fun _ _ _ _ _ => (pe_call G_height_of (hr.mono (by decide)) (by rfl) D_height_of.g D_height_of.F.kp D_height_of.b .nil pass0 (pa_cons (pe_ix (ix_tupK K) (pe_dget hu (pv 0) (pv 3) (fun _ _ => rfl)) pe_int (fun _ _ => rfl)) (pa_cons (pv 1) pa_nil)))))))))
      (pss_one (ps_ret (pv 1))))), ?_⟩
    have lt : ∀ n : Nat, n ≤ 1000 → n < sizeLine := fun n h => Nat.lt_of_le_of_lt h (by decide)
    have hl : (ptv ps).length = ps.length := List.length_map ..
    have n4 := ok.n4
    have few : ∀ i (h : Str → Nat), (htv (ps.take i) h).length < sizeLine := fun i h => lt _ (by unfold htv; rw [List.length_map, List.length_take]; omega)
    -- all zero
    refine ⟨pa, .dK (ptv ps), hpa, trivial, fun od => ⟨.ref pa, rfl, pa, od, rfl, .inl ⟨ptv ps, upd_same, fun Da nD => ?_⟩⟩⟩
    have nDp : Da ≠ pa := fun z => by rw [z, upd_same] at nD; cases nD
    refine dc_it walk_keys (fun i H' => Same (upd H pa (.frz od (.dK (ptv ps)))) H' ∧ H' Da = some (.dK (htv (ps.take i) (hts ps 0)))) ⟨same_new nD, upd_same⟩ (fun i H _ p => p.1 _ _ upd_same) ?_ ?_
    · rintro i y H2 H3 hi ⟨sm, eD⟩ ⟨rfl, k, v, e, rfl⟩
      obtain ⟨p, ep, rfl, rfl⟩ := ptv_at e
      refine ⟨rfl, lcT ⟨.str p.nm, rfl, htv (ps.take i) (hts ps 0), .inr p.nm, rfl, eD, few _ _, same_upd sm nD, ?_⟩⟩
      rw [upd_same]
      exact congrArg (fun z => some (HO.dK z)) (htv_put (h := hts ps 0) ok.nd ep)
    rintro H1 ⟨sm, eD⟩
    refine ⟨sm _ _ upd_same, ?_⟩
    have s1 : Same H (upd H1 pa (.dK (ptv ps))) := same_unlock hpa sm
    have e1 : (upd H1 pa (.dK (ptv ps))) Da = some (.dK (htv ps (hts ps 0))) := by
      rw [upd_ne nDp, eD, hl, List.take_length]
    have nD0 : H Da = none := by rw [upd_ne nDp] at nD; exact nD
    generalize upd H1 pa (.dK (ptv ps)) = H2 at s1 e1
    clear sm eD nD
    refine ⟨.ref pa, rfl, pa, _, rfl, s1 _ _ hpa, ?_⟩
    rw [hl]
    refine ⟨_, rfl, by omega, by omega, for_range (lo := 0) (n := ((ps.length : Nat) : Int).toNat) (fun j σ H' => ∃ (d : Addr) (y2 y3 : Option V), σ = [some (.ref pa), some (.ref d), y2, y3] ∧ Same H H' ∧ H d = none ∧ H' d = some (.dK (htv ps (hts ps j)))) ?_ ?_ ?_⟩
    · exact ⟨Da, _, _, rfl, s1, nD0, e1⟩
    · rintro j σ H3 hj ⟨d, y2, y3, rfl, s3, nd, e3⟩
      have hpa3 := s3 _ _ hpa
      refine ⟨pa, .dK (ptv ps), hpa3, trivial, fun od => ⟨.ref pa, rfl, pa, od, rfl, .inl ⟨ptv ps, upd_same, fun Db nB => ?_⟩⟩⟩
      have nBp : Db ≠ pa := fun z => by rw [z, upd_same] at nB; cases nB
      have dp : d ≠ pa := fun z => by rw [z, hpa] at nd; cases nd
      have e3' : (upd H3 pa (.frz od (.dK (ptv ps)))) d = some (.dK (htv ps (hts ps j))) := by rw [upd_ne dp]; exact e3
      refine dc_it walk_keys (fun i H' => Same (upd H3 pa (.frz od (.dK (ptv ps)))) H' ∧ H' Db = some (.dK (htv (ps.take i) (hts ps (j + 1))))) ⟨same_new nB, upd_same⟩ (fun i H _ p => p.1 _ _ upd_same) ?_ ?_
      · rintro i y H4 H5 hi ⟨sm, eD⟩ ⟨rfl, k, v, e, rfl⟩
        obtain ⟨p, ep, rfl, rfl⟩ := ptv_at e
        have mp := List.mem_of_getElem? ep
        have atp : p.At H5 := (at_ p mp).tk ((Same.tk s3).trans ((Tk.upd hpa3 (fun _ z => nomatch z)).trans (Same.tk sm)))
        have rk : Rd H5 pa (.dK (ptv ps)) := .inr ⟨od, sm _ _ upd_same⟩
        obtain ⟨r6, sm6, lv5⟩ := ok.r6 p mp
        refine ⟨rfl, lcT ⟨.str p.nm, rfl, .ref pa, rfl, .str p.nm, rfl, pa, _, rfl, .inl ⟨ptv ps, .inr p.nm, rk, rfl, (ptv_val ok.nd mp).symm⟩, p.t, _, 1, _, rfl, rfl, .inl (.inl atp.1), atI_nat (j := 1) rfl, .ref d, rfl, p.r, p.rows, d, htv ps (hts ps j), (fun n => n ∈ ps.map (·.nm)), hts ps j, rfl, atp.2, r6, sm6, lv5, ok.rf p mp, sm _ _ e3', fun n m => ?_, fun H6 s6 => ?_⟩⟩
        · obtain ⟨p', mp', rfl⟩ := List.mem_map.mp m
          exact htv_val ok.nd mp'
        · refine ⟨htv (ps.take i) (hts ps (j + 1)), .inr p.nm, rfl, s6 _ _ eD, few _ _, same_upd (sm.trans s6) nB, ?_⟩
          rw [upd_same, ← hts_of ok.nd mp j]
          exact congrArg (fun z => some (HO.dK z)) (htv_put (h := hts ps (j + 1)) ok.nd ep)
      rintro H4 ⟨sm, eD⟩
      refine ⟨sm _ _ upd_same, ?_⟩
      have s4 := same_unlock hpa3 sm
      refine ⟨Db, _, _, rfl, s3.trans s4, s3.free (by rw [upd_ne nBp] at nB; exact nB), ?_⟩
      rw [upd_ne nBp, eD, hl, List.take_length]
    · rintro σ H3 ⟨d, y2, y3, rfl, s3, nd, e3⟩
      rw [Int.toNat_natCast] at e3
      exact ⟨_, rfl, q d H3 s3 nd e3⟩
end
end NW
namespace NW
open PySem PySem.Spec PyProof.Rows L2
open TL (tl)
open StX (pa_star)
abbrev s_uses_of_parts : Stmt := topS 45
abbrev N_uses_of_parts : List Str := ["parts", "found", "item", "name"]
theorem sc_uses_of_parts : FnScope N_uses_of_parts ["parts", "found"] (defScope s_uses_of_parts) := ⟨rfl, rfl, rfl, by decide +kernel, rfl, by decide +kernel, by decide +kernel⟩
abbrev s_comes_to : Stmt := topS 46
abbrev N_comes_to : List Str := ["name", "uses", "reached", "waiting", "other"]
theorem sc_comes_to : FnScope N_comes_to ["name", "uses"] (defScope s_comes_to) := ⟨rfl, rfl, rfl, by decide +kernel, rfl, by decide +kernel, by decide +kernel⟩
theorem nd_len : ∀ {l m : List Str}, l.Nodup → (∀ x ∈ l, x ∈ m) → l.length ≤ m.length := by
  intro l
  induction l with
  | nil => intro m _ _; exact Nat.zero_le _
  | cons a r ih =>
    intro m nd h
    have nd' : a ∉ r ∧ r.Nodup := List.nodup_cons.mp nd
    have ha := h a List.mem_cons_self
    have := ih (m := m.erase a) nd'.2 fun x hx => (List.mem_erase_of_ne (fun e => nd'.1 (by rw [← e]; exact hx))).mpr (h x (List.mem_cons_of_mem _ hx))
    rw [List.length_erase_of_mem ha] at this
    have := List.length_pos_of_mem ha
    rw [List.length_cons]
    omega
theorem seqW {c : TT} {tb u : TS} {D : Ends} {σ : L2.St} {H : Hp} (h : tWhile c tb { D with nx := u D } σ H) : tSeq (tWhile c tb) u D σ H := h
theorem gNm {i : Nat} {x : V} {σ : L2.St} {H : Hp} {Q : L2.St → Hp → Prop} (h : Q (σ.set i (some x)) H) : gName i x σ H Q := h
def lenAt (H : Hp) (p : Addr) : Nat := match H p with
  | some (.lst xs) => xs.length
  | _ => 0
theorem lenAt_of {H : Hp} {p : Addr} {xs : List V} (h : H p = some (.lst xs)) : lenAt H p = xs.length := by unfold lenAt; rw [h]
/-! ### what parts use -/
structure Itm where
  pl : List Key
  z : Str
  t : St
def ItmAt (H : Hp) (v : V) (i : Itm) : Prop := ItemAt H v i.pl i.z i.t
def ItsAt (H : Hp) (xs : List V) (its : List Itm) : Prop := xs.length = its.length ∧ ∀ (k : Nat) v, xs[k]? = some v → ∃ i, its[k]? = some i ∧ ItmAt H v i
theorem ItmAt.tk {H H' : Hp} {v : V} {i : Itm} (k : Tk H H') (h : ItmAt H v i) : ItmAt H' v i := by
  obtain ⟨a, p, s, e, h1, h2, h3⟩ := h
  exact ⟨a, p, s, e, k _ _ h1, k _ _ h2, h3.tk k⟩
theorem ItsAt.tk {H H' : Hp} {xs : List V} {its : List Itm} (k : Tk H H') (h : ItsAt H xs its) : ItsAt H' xs its := ⟨h.1, fun j v e => by
  obtain ⟨i, ei, hi⟩ := h.2 j v e
  exact ⟨i, ei, hi.tk k⟩⟩
def useOf (n : Str) (i : Itm) : Option Str := match i.pl, i.t with
  | k :: _, .part p => if k = Sum.inr n then some p else none
  | _, _ => none
def usesOf (its : List Itm) (n : Str) : List Str := its.filterMap (useOf n)
section
variable {P : Program} {w : World} {K : PySem.W.Frag} {mg : Str → Option Value} {base : Heap}
/-- a dict of lists of texts -/
def UsesAt (H : Hp) (ud : Addr) (ns : List Str) (U : Str → List Str) : Prop := ∃ as : Str → Addr, H ud = some (.dK (ns.map fun n => ((Sum.inr n : Key), V.ref (as n)))) ∧ ∀ n ∈ ns, H (as n) = some (.lst ((U n).map V.str))
def spComesTo : Sp := fun vs H Q _ => ∃ (ud : Addr) (n : Str) (ns : List Str) (U : Str → List Str) (rk : Str → Nat), vs = [.str n, .ref ud] ∧ UsesAt H ud ns U ∧ ns.Nodup ∧ ns.length ≤ 4 ∧ n ∈ ns ∧ (∀ x ∈ ns, (U x).length ≤ 50 ∧ ∀ y ∈ U x, y ∈ ns ∧ rk y < rk x) ∧ ∀ H', Same H H' → Q (.bl false) H'
theorem ok_comes_to {f : Addr} {fd : FuncData} (D : Df K mg "comes_to" s_comes_to f fd ["name", "uses"]) (T : Nms mg) : FnOk P w K mg base CX0 1 f fd ["name", "uses"] spComesTo := by
  refine D.F.ok sc_comes_to (fun vs H Q E h => ?_) (fun cdv A outer s H vs Q E hr h => ?_)
  · obtain ⟨ud, n, ns, U, rk, rfl, _⟩ := h
    rfl
  · obtain ⟨ud, n, ns, U, rk, rfl, ⟨as, hud, has⟩, nd, n4, hn, hU, q⟩ := h
    have hu := hu_of hr
    refine ⟨_, (pss_cons (ps_set (i := 2) sc_comes_to.nd rfl (.inl rfl) (pe_lst pa_nil))
      (pss_cons (ps_set (i := 3) sc_comes_to.nd rfl (.inl rfl) (pe_callTy call_list_of (by rfl) T.n_list (by decide +kernel) (pa_cons (pe_dget hu (pv 1) (pv 0) (fun _ _ => rfl)) pa_nil)))
      (pss_cons (ps_while PassesOwn.never (pt_truth (pv 3) (by intro _; rfl))
       (pss_cons (ps_set (i := 4) sc_comes_to.nd rfl (.inl rfl) (pe_bm0 PySem.F.plainAttrs_list PySem.F.slot_list_pop PySem.F.type_list_pop mt_pop (pv 3)))
        (pss_one (ps_if (pt_cmpR op_notIn_seq (pv 4) (pv 2) (by rfl))
         (pss_cons (ps_expr (pe_bm PySem.F.plainAttrs_list PySem.F.slot_list_append PySem.F.type_list_append mt_append (pv 2) (pa_cons (pv 4) pa_nil)))
          (pss_one (ps_expr (pe_bm PySem.F.plainAttrs_list PySem.F.slot_list_extend PySem.F.type_list_extend mt_extend (pv 3) (pa_cons (pe_dget hu (pv 1) (pv 4) (fun _ _ => rfl)) pa_nil)))))
         pss_nil))))
      (pss_one (ps_ret (pe_cmpR op_in_seq (pv 0) (pv 2) (by rfl))))))), ?_⟩
    have hS : ∀ n : Nat, n ≤ 1000 → n ≤ sizeLine := fun n h => Nat.le_trans h (by decide)
    have lt : ∀ n : Nat, n ≤ 1000 → n < sizeLine := fun n h => Nat.lt_of_le_of_lt h (by decide)
    have val : ∀ x ∈ ns, some (V.ref (as x)) = valV (ns.map fun n => ((Sum.inr n : Key), V.ref (as n))) (Sum.inr x) := fun x m => (valV_map (f := fun z : Str => z) (g := fun z => V.ref (as z)) (by rw [List.map_id']; exact nd) m).symm
    refine ⟨hS 0 (by decide), fun pf npf => ?_⟩
    have s0 := same_new (o := .lst []) npf
    refine ⟨.ref ud, rfl, .str n, rfl, ud, .ref (as n), rfl, .inl ⟨_, .inr n, .inl (s0 _ _ hud), rfl, val n hn⟩, as n, _, rfl, .inl (SqL.of (s0 _ _ (has n hn))), fun pw npw => ?_⟩
    have n_fw : pf ≠ pw := fun e => by
      rw [← e, upd_same] at npw
      cases npw
    have npw0 : H pw = none := by rw [upd_ne (Ne.symm n_fw)] at npw; exact npw
    have s1 := s0.trans (same_new (o := .lst ((U n).map V.str)) npw)
    have e0f : (upd (upd H pf (.lst [])) pw (.lst ((U n).map V.str))) pf = some (.lst (([] : List Str).map V.str)) := by rw [upd_ne n_fw]; exact upd_same
    have e0w : (upd (upd H pf (.lst [])) pw (.lst ((U n).map V.str))) pw = some (.lst ((U n).map V.str)) := upd_same
    dsimp only
    refine gNm (seqW (while_by (fun σ H' => ∃ (fo wa : List Str) (y4 : Option V), σ = [some (.str n), some (.ref ud), some (.ref pf), some (.ref pw), y4] ∧ Same H H' ∧ H' pf = some (.lst (fo.map V.str)) ∧ H' pw = some (.lst (wa.map V.str)) ∧
        fo.Nodup ∧ (∀ a ∈ fo, a ∈ ns ∧ rk a < rk n) ∧ (∀ a ∈ wa, a ∈ ns ∧ rk a < rk n) ∧ 60 * (5 - fo.length) + wa.length ≤ 400) (fun _ H' => 60 * (5 - lenAt H' pf) + lenAt H' pw) ?_ ?_ ?_))
    · exact ⟨[], U n, _, rfl, s1, e0f, e0w, List.nodup_nil, (fun _ m => by cases m), (fun a m => (hU n hn).2 a m), by show 60 * (5 - 0) + _ ≤ 400; have := (hU n hn).1; omega⟩
    · rintro σ H1 ⟨fo, wa, y4, rfl, s1, ef, ew, ndf, lf, lw, mu⟩
      rw [lenAt_of ef, lenAt_of ew, List.length_map, List.length_map]
      have f4 : fo.length ≤ 4 := Nat.le_trans (nd_len ndf (fun a m => (lf a m).1)) n4
      refine ⟨.ref pw, rfl, !(wa.map V.str).isEmpty, .inl ⟨wa.map V.str, SqL.of ew, rfl⟩, ?_⟩
      rcases List.eq_nil_or_concat wa with rfl | ⟨wi, o, rfl⟩
      · refine iteF ⟨.str n, rfl, .ref pf, rfl, pf, _, rfl, .inl (SqL.of ef), rfl, flat_map fo, ?_⟩
        rw [inV_strs, decide_eq_false (fun m => Nat.lt_irrefl _ (lf n m).2)]
        exact q H1 s1
      · simp only [List.concat_eq_append] at *
        rw [List.length_append, List.length_singleton] at mu ⊢
        have hne : (!((wi ++ [o]).map V.str).isEmpty) = true := by simp
        rw [hne]
        refine iteT ?_
        have lo := lw o (List.mem_append_right _ (List.mem_singleton.mpr rfl))
        have hlast : ((wi ++ [o]).map V.str)[((wi ++ [o]).map V.str).length - 1]? = some (.str o) := by
          rw [List.length_map, List.length_append, List.length_singleton, Nat.add_sub_cancel, List.getElem?_map, List.getElem?_append_right (Nat.le_refl _), Nat.sub_self]
          rfl
        have hdrop : ((wi ++ [o]).map V.str).dropLast = wi.map V.str := by rw [List.map_append]; exact List.dropLast_concat
        refine ⟨.ref pw, rfl, .inl ⟨rfl, _, SqL.of ew⟩, pw, _, .str o, rfl, rfl, ew, hlast, ?_⟩
        rw [hdrop]
        have ef1 : (upd H1 pw (.lst (wi.map V.str))) pf = some (.lst (fo.map V.str)) := by rw [upd_ne n_fw]; exact ef
        have ew1 : (upd H1 pw (.lst (wi.map V.str))) pw = some (.lst (wi.map V.str)) := upd_same
        have s2 := same_upd (o := .lst (wi.map V.str)) s1 npw0
        generalize upd H1 pw (.lst (wi.map V.str)) = H2 at ef1 ew1 s2
        refine ⟨.str o, rfl, .ref pf, rfl, pf, _, rfl, .inl (SqL.of ef1), rfl, flat_map fo, ?_⟩
        rw [inV_strs]
        by_cases ho : o ∈ fo
        · rw [decide_eq_true ho]
          refine ⟨false, rfl, iteF ⟨⟨fo, wi, _, rfl, s2, ef1, ew1, ndf, lf, (fun a m => lw a (List.mem_append_left _ m)), by omega⟩, ?_⟩⟩
          rw [lenAt_of ef1, lenAt_of ew1, List.length_map, List.length_map]
          omega
        · rw [decide_eq_false ho]
          have nd2 : (fo ++ [o]).Nodup := List.nodup_append.mpr ⟨ndf, List.nodup_cons.mpr ⟨(fun z => by cases z), List.nodup_nil⟩, fun a ha b hb e => ho (by rw [← List.mem_singleton.mp hb, ← e]; exact ha)⟩
          have lf2 : ∀ a ∈ fo ++ [o], a ∈ ns ∧ rk a < rk n := fun a m => by
            rcases List.mem_append.mp m with m | m
            · exact lf a m
            · rw [List.mem_singleton.mp m]; exact lo
          have f42 : fo.length + 1 ≤ 4 := by
            have := Nat.le_trans (nd_len nd2 (fun a m => (lf2 a m).1)) n4
            rw [List.length_append, List.length_singleton] at this
            exact this
          refine ⟨true, rfl, iteT ⟨.ref pf, rfl, .inl ⟨rfl, _, SqL.of ef1⟩, .str o, rfl, pf, _, _, rfl, rfl, ef1, lt _ (by rw [List.length_map]; omega), ?_⟩⟩
          have ef3 : (upd H2 pf (.lst (fo.map V.str ++ [V.str o]))) pf = some (.lst ((fo ++ [o]).map V.str)) := by rw [upd_same, List.map_append]; rfl
          have ew3 : (upd H2 pf (.lst (fo.map V.str ++ [V.str o]))) pw = some (.lst (wi.map V.str)) := by rw [upd_ne (Ne.symm n_fw)]; exact ew1
          have s3 := same_upd (o := .lst (fo.map V.str ++ [V.str o])) s2 npf
          generalize upd H2 pf (.lst (fo.map V.str ++ [V.str o])) = H3 at ef3 ew3 s3
          obtain ⟨u50, uo⟩ := hU o lo.1
          refine ⟨.ref pw, rfl, .inl ⟨rfl, _, SqL.of ew3⟩, .ref ud, rfl, .str o, rfl, ud, .ref (as o), rfl, .inl ⟨_, .inr o, .inl (s3 _ _ hud), rfl, val o lo.1⟩, pw, as o, _, _, rfl, rfl, ew3, s3 _ _ (has o lo.1), hS _ (by rw [List.length_map, List.length_map]; omega), ⟨fo ++ [o], wi ++ U o, _, rfl, same_upd s3 npw0, by rw [upd_ne n_fw]; exact ef3, by rw [upd_same, List.map_append], nd2, lf2, fun a m => ?_, ?_⟩, ?_⟩
          · rcases List.mem_append.mp m with m | m
            · exact lw a (List.mem_append_left _ m)
            · exact ⟨(uo a m).1, Nat.lt_trans (uo a m).2 lo.2⟩
          · rw [List.length_append, List.length_append, List.length_singleton]
            omega
          · rw [lenAt_of (by rw [upd_ne n_fw]; exact ef3), lenAt_of (upd_same), List.length_append, List.length_map, List.length_map, List.length_map, List.length_append, List.length_singleton]
            omega
    · intro σ H1 Q1 Q2 h ⟨u, e, kk, t, r⟩
      exact ⟨u, e, kk, t, h _ _ r⟩
end
end NW
namespace NW
open PySem PySem.Spec PyProof.Rows L2
open TL (tl)
open StX (pa_star)

theorem pi_listK {X : Cx} (K : PySem.W.Frag) {tg e : Expr} {ta : TE} (ha : PE X e ta) (hK : X.K = K := by rfl) : PI X tg e (iList K ta) := hK ▸ pi_list ha
theorem useOf_cases {i : Itm} {k : Key} {r : List Key} (n : Str) (h : i.pl = k :: r) : (k = Sum.inr n ∧ wd i.t = "part" ∧ useOf n i = some (arg i.t)) ∨ (k = Sum.inr n ∧ ¬ wd i.t = "part" ∧ useOf n i = none) ∨ (¬ k = Sum.inr n ∧ useOf n i = none) := by
  obtain ⟨pl, z, t⟩ := i
  cases h
  by_cases hk : k = Sum.inr n
  · cases t with
    | part p => exact .inl ⟨hk, rfl, by show (if k = Sum.inr n then some p else none) = _; rw [if_pos hk]; rfl⟩
    | field f k' r' => exact .inr (.inl ⟨hk, (show ¬ ("field" : Str) = "part" by decide +kernel), rfl⟩)
    | kind k' => exact .inr (.inl ⟨hk, (show ¬ ("kind" : Str) = "part" by decide +kernel), rfl⟩)
    | on z' r' => exact .inr (.inl ⟨hk, (show ¬ ("on" : Str) = "part" by decide +kernel), rfl⟩)
    | iff z' b r' => exact .inr (.inl ⟨hk, (show ¬ ("if" : Str) = "part" by decide +kernel), rfl⟩)
  · refine .inr (.inr ⟨hk, ?_⟩)
    cases t with
    | part p => show (if k = Sum.inr n then some p else none) = none; rw [if_neg hk]
    | field f k' r' => rfl
    | kind k' => rfl
    | on z' r' => rfl
    | iff z' b r' => rfl
abbrev sc_usesO : Scope := { kind := ScopeKind.function, names := [(".0", NameKind.local), ("name", NameKind.cell), ("found", NameKind.cell)], isGenerator := false, isCoroutine := false }
abbrev sc_usesI : Scope := { kind := ScopeKind.function, names := [(".0", NameKind.local), ("item", NameKind.local), ("name", NameKind.free)], isGenerator := false, isCoroutine := false }
theorem blk_uses : BlkOk N_uses_of_parts sc_usesO sc_usesI [("item", 2)] := blkOk_by (by decide +kernel)
section
variable {P : Program} {w : World} {K : PySem.W.Frag} {mg : Str → Option Value} {base : Heap}
def spUses : Sp := fun vs H Q _ => ∃ (pa fa : Addr) (ps : List PRow) (xs : List V) (its : List Itm), vs = [.ref pa, .ref fa] ∧ H pa = some (.dK (ptv ps)) ∧ (ps.map (·.nm)).Nodup ∧ ps.length ≤ 4 ∧ H fa = some (.lst xs) ∧ ItsAt H xs its ∧ its.length ≤ 50 ∧ (∀ i ∈ its, i.pl ≠ []) ∧
  ∀ d H', Same H H' → H d = none → UsesAt H' d (ps.map (·.nm)) (usesOf its) → Q (.ref d) H'
theorem ok_uses {f : Addr} {fd : FuncData} (D : Df K mg "uses_of_parts" s_uses_of_parts f fd ["parts", "found"]) (T : Nms mg) : FnOk P w K mg base CX0 1 f fd ["parts", "found"] spUses := by
  refine D.F.ok sc_uses_of_parts (fun vs H Q E h => ?_) (fun cdv A outer s H vs Q E hr h => ?_)
  · obtain ⟨pa, fa, ps, xs, its, rfl, _⟩ := h
    rfl
  · obtain ⟨pa, fa, ps, xs, its, rfl, hpa, nd, n4, hfa, hits, few, ne, q⟩ := h
    have hu := hu_of hr
    refine ⟨_, (pss_one (ps_ret (pe_lock (pe_dc (own := [("name", 3)]) (g := (gName 3)) (tt := tYes) rfl sc_uses_of_parts.nd (pi_keys (pv 0)) (blkOk_by (own := [("name", 3)]) (N := N_uses_of_parts) (sc := defScope s_uses_of_parts) (by decide +kernel)) (fun _ _ _ _ _ => (pg_name (i := 3) sc_uses_of_parts.nd rfl (.inr rfl))) (fun _ _ _ _ _ => pts_nil) (fun _ _ _ _ _ => (pv 3)) (fun _ _ _ _ _ => (pe_lc (own := [("item", 2)]) (g := (gName 2)) rfl sc_uses_of_parts.nd ((pi_listK K) (pv 1)) blk_uses (fun _ _ _ _ _ => (pg_name (i := 2) sc_uses_of_parts.nd rfl (.inl rfl))) (fun _ _ _ _ _ => pts_one (PW.pt (pw_and (pt_cmpR op_eq (pe_ix (ix_tupK K) (pe_ix (ix_tupK K) (pv 2) pe_int (fun _ _ => rfl)) pe_int (fun _ _ => rfl)) (pv 3) (nomark _)) (pw_and1 (pt_cmpR op_eq (pe_ix (ix_tupK K) (pe_ix (ix_tupK K) (pv 2) pe_int (fun _ _ => rfl)) pe_int (fun _ _ => rfl)) pe_str (nomark _)))))) (fun _ _ _ _ _ => (pe_ix (ix_tupK K) (pe_ix (ix_tupK K) (pv 2) pe_int (fun _ _ => rfl)) pe_int (fun _ _ => rfl))))))))), ?_⟩
    have lt : ∀ n : Nat, n ≤ 1000 → n < sizeLine := fun n h => Nat.lt_of_le_of_lt h (by decide)
    have hl : (ptv ps).length = ps.length := List.length_map ..
    refine ⟨pa, .dK (ptv ps), hpa, trivial, fun od => ⟨.ref pa, rfl, pa, od, rfl, .inl ⟨ptv ps, upd_same, fun Da nD => ?_⟩⟩⟩
    have nDp : Da ≠ pa := fun z => by rw [z, upd_same] at nD; cases nD
    have fp : fa ≠ pa := ne_of hfa hpa (fun z => nomatch z)
    have hfaL : (upd H pa (.frz od (.dK (ptv ps)))) fa = some (.lst xs) := by rw [upd_ne fp]; exact hfa
    have tkL : Tk H (upd H pa (.frz od (.dK (ptv ps)))) := Tk.upd hpa (fun _ z => nomatch z)
    refine dc_it walk_keys (fun i H' => Same (upd H pa (.frz od (.dK (ptv ps)))) H' ∧ ∃ as : Str → Addr, H' Da = some (.dK ((ps.take i).map fun p => ((Sum.inr p.nm : Key), V.ref (as p.nm)))) ∧ ∀ p ∈ ps.take i, H' (as p.nm) = some (.lst ((usesOf its p.nm).map V.str)) ∧ as p.nm ≠ Da) ⟨same_new nD, fun _ => 0, upd_same, fun p m => nomatch m⟩ (fun i H _ p => p.1 _ _ upd_same) ?_ ?_
    · rintro i y H2 H3 hi ⟨sm, as, eD, al⟩ ⟨rfl, k, v, e, rfl⟩
      obtain ⟨p, ep, rfl, rfl⟩ := ptv_at e
      have hn : p.nm ∉ (ps.take i).map (fun p : PRow => p.nm) := fun m => by
        have eB : ps = ps.take (i + 1) ++ ps.drop (i + 1) := (List.take_append_drop _ _).symm
        rw [takeS ep] at eB
        rw [eB, List.map_append, List.map_append] at nd
        exact (List.nodup_append.mp (List.nodup_append.mp nd).1).2.2 _ m _ (List.mem_singleton.mpr rfl) rfl
      have hfa3 := sm _ _ hfaL
      refine ⟨rfl, lcT ⟨.str p.nm, rfl, .ref fa, rfl, fa, rfl, ⟨_, SqL.of hfa3⟩, fun Db nB => ?_⟩⟩
      refine lc_it (walk_list (xs := xs)) (fun j H' => Same H3 H' ∧ H' Db = some (.lst ((usesOf (its.take j) p.nm).map V.str))) ⟨same_new nB, upd_same⟩ (fun j H2 _ h => SqL.of (h.1 _ _ hfa3)) ?_ ?_
      · rintro j x H4 H5 hj ⟨s4, e4⟩ ⟨rfl, ex⟩
        obtain ⟨it, ei, hit⟩ := hits.2 j x ex
        obtain ⟨a, pl, st, rfl, h1, h2, h3⟩ := hit.tk (tkL.trans ((Same.tk sm).trans (Same.tk s4)))
        obtain ⟨k0, r0, epl⟩ : ∃ k r, it.pl = k :: r := by
          cases h : it.pl with
          | nil => exact absurd h (ne it (List.mem_of_getElem? ei))
          | cons k r => exact ⟨k, r, rfl⟩
        rw [epl] at h2
        obtain ⟨b, zs, rfl, hb, z0, z1⟩ := h3.hd
        have efl : usesOf (its.take (j + 1)) p.nm = usesOf (its.take j) p.nm ++ [it].filterMap (useOf p.nm) := by
          unfold usesOf
          rw [takeS ei, List.filterMap_append]
        have hlu : (usesOf (its.take j) p.nm).length ≤ 1000 := by
          have := List.length_filterMap_le (useOf p.nm) (its.take j)
          have h3 : (its.take j).length ≤ its.length := by rw [List.length_take]; omega
          unfold usesOf
          omega
        have sc : scal (kV k0) (.str p.nm) = true := by cases k0 <;> rfl
        have kV_eq : kV k0 = .str p.nm ↔ k0 = Sum.inr p.nm := by
          constructor
          · intro h
            cases k0 with
            | inl n => cases h
            | inr z => cases h; rfl
          · rintro rfl
            rfl
        rcases useOf_cases p.nm epl with ⟨c1, c2, c3⟩ | ⟨c1, c2, c3⟩ | ⟨c1, c3⟩
        · refine ⟨rfl, .ref a, rfl, a, _, 0, _, rfl, rfl, .inl (.inl h1), atI_nat (j := 0) rfl, pl, _, 0, _, rfl, rfl, .inl (.inl h2), atI_nat (j := 0) rfl, .str p.nm, rfl, sc, true, blT (kV_eq.mpr c1), iteT ⟨.ref a, rfl, a, _, 2, _, rfl, rfl, .inl (.inl h1), atI_nat (j := 2) rfl, b, _, 0, _, rfl, rfl, .inl (.inl hb), atI_nat (j := 0) z0, rfl, true, blT (by rw [c2]), iteT ⟨.ref a, rfl, a, _, 2, _, rfl, rfl, .inl (.inl h1), atI_nat (j := 2) rfl, b, _, 1, _, rfl, rfl, .inl (.inl hb), atI_nat (j := 1) z1, _, e4, lt _ (by rw [List.length_map]; exact hlu), same_upd s4 nB, ?_⟩⟩⟩
          rw [upd_same, efl, List.map_append, List.filterMap_cons, c3]
          rfl
        · refine ⟨rfl, .ref a, rfl, a, _, 0, _, rfl, rfl, .inl (.inl h1), atI_nat (j := 0) rfl, pl, _, 0, _, rfl, rfl, .inl (.inl h2), atI_nat (j := 0) rfl, .str p.nm, rfl, sc, true, blT (kV_eq.mpr c1), iteT ⟨.ref a, rfl, a, _, 2, _, rfl, rfl, .inl (.inl h1), atI_nat (j := 2) rfl, b, _, 0, _, rfl, rfl, .inl (.inl hb), atI_nat (j := 0) z0, rfl, false, blF (fun e => c2 (V.str.inj e)), iteF ⟨s4, ?_⟩⟩⟩
          rw [efl, List.filterMap_cons, c3]
          show _ = some (HO.lst ((usesOf (its.take j) p.nm ++ []).map V.str))
          rw [List.append_nil]
          exact e4
        · refine ⟨rfl, .ref a, rfl, a, _, 0, _, rfl, rfl, .inl (.inl h1), atI_nat (j := 0) rfl, pl, _, 0, _, rfl, rfl, .inl (.inl h2), atI_nat (j := 0) rfl, .str p.nm, rfl, sc, false, blF (fun e => c1 (kV_eq.mp e)), iteF ⟨s4, ?_⟩⟩
          rw [efl, List.filterMap_cons, c3]
          show _ = some (HO.lst ((usesOf (its.take j) p.nm ++ []).map V.str))
          rw [List.append_nil]
          exact e4
      · rintro H4 ⟨s4, e4⟩
        rw [hits.1, List.take_length] at e4
        have nBD : Db ≠ Da := fun z => by rw [z, eD] at nB; cases nB
        refine ⟨_, .inr p.nm, rfl, s4 _ _ eD, lt _ (by rw [List.length_map, List.length_take]; omega), same_upd (sm.trans s4) nD, fun z => if z = p.nm then Db else as z, ?_, fun p' m => ?_⟩
        · rw [upd_same, putK_new _ (by
            have : (ps.take i).map (fun p : PRow => ((Sum.inr p.nm : Key), V.ref (as p.nm))) = (ps.take i).map (fun p : PRow => ((Sum.inr (p.nm) : Key), V.ref (as p.nm))) := rfl
            exact valV_out (f := fun p : PRow => p.nm) (g := fun p : PRow => V.ref (as p.nm)) hn), takeS ep, List.map_append]
          congr 3
          · refine List.map_congr_left fun p' m' => ?_
            have : ¬ p'.nm = p.nm := fun z => hn (List.mem_map.mpr ⟨p', m', z⟩)
            simp only [if_neg this]
          · simp
        · rw [takeS ep] at m
          rcases List.mem_append.mp m with m | m
          · have : ¬ p'.nm = p.nm := fun z => hn (List.mem_map.mpr ⟨p', m, z⟩)
            simp only [if_neg this]
            obtain ⟨a1, a2⟩ := al p' m
            exact ⟨by rw [upd_ne a2]; exact s4 _ _ a1, a2⟩
          · rw [List.mem_singleton.mp m]
            simp only [if_pos]
            exact ⟨by rw [upd_ne nBD]; exact e4, nBD⟩
    · rintro H2 ⟨sm, as, eD, al⟩
      refine ⟨sm _ _ upd_same, ?_⟩
      rw [hl, List.take_length] at eD al
      refine q Da _ (same_unlock hpa sm) (by rw [upd_ne nDp] at nD; exact nD) ⟨as, ?_, fun n m => ?_⟩
      · rw [upd_ne nDp, eD, List.map_map]
        rfl
      · obtain ⟨p, mp, rfl⟩ := List.mem_map.mp m
        rw [upd_ne (ne_of (al p mp).1 (sm _ _ upd_same) (fun z => nomatch z))]
        exact (al p mp).1
end
end NW
namespace NW
open PySem PySem.Spec PyProof.Rows L2
open TL (tl)
open StX (pa_star)
abbrev s_is_wrong : Stmt := topS 43
abbrev N_is_wrong : List Str := ["schema", "parts", "before", "item", "place", "base", "statement", "known"]
theorem sc_is_wrong : FnScope N_is_wrong ["schema", "parts", "before", "item"] (defScope s_is_wrong) := ⟨rfl, rfl, rfl, by decide +kernel, rfl, by decide +kernel, by decide +kernel⟩
/-! ### all statements in their order -/
def fdsAt (ks : List KRow) (fs : List FRow) (z : Str) : List Fld := match ks.find? fun k => decide (k.nm = z) with
  | some k => k.fds
  | none => match fs.find? fun k => decide (k.nm = z) with | some k => k.fds | none => []
def ibF (ks : List KRow) (fs : List FRow) (z f : Str) : Str := match (fdsAt ks fs z).find? fun fl => decide (fl.1 = f) with | some fl => fl.2.2.tgt | none => z
theorem find_is {α : Type} {f : α → Str} : ∀ {l : List α} {a : α}, (l.map f).Nodup → a ∈ l → l.find? (fun x => decide (f x = f a)) = some a
  | x :: r, a, nd, m => by
    have nd' : f x ∉ r.map f ∧ (r.map f).Nodup := List.nodup_cons.mp nd
    rcases List.mem_cons.mp m with rfl | m
    · rw [List.find?_cons_of_pos (by simp)]
    · have : ¬ f x = f a := fun e => nd'.1 (List.mem_map.mpr ⟨a, m, e.symm⟩)
      rw [List.find?_cons_of_neg (by simpa using this)]
      exact find_is nd'.2 m
theorem find_no {α : Type} {f : α → Str} {l : List α} {z : Str} (h : z ∉ l.map f) : l.find? (fun x => decide (f x = z)) = none := List.find?_eq_none.mpr fun x m e => h (List.mem_map.mpr ⟨x, m, of_decide_eq_true e⟩)
theorem fds_eq {ks : List KRow} {fs : List FRow} {us : List URow} {root z : Str} (ok : SchOk ks fs us root) {fds : List Fld} (h : FdsOf ks fs z fds) : fds = fdsAt ks fs z := by
  unfold fdsAt
  rcases h with ⟨k, mk, rfl, rfl⟩ | ⟨n, f, mf, rfl, rfl⟩ | ⟨n1, n2, rfl⟩
  · rw [find_is (f := fun k : KRow => k.nm) ok.ndk mk]
  · rw [find_no (f := fun k : KRow => k.nm) n, find_is (f := fun k : FRow => k.nm) ok.ndf mf]
  · rw [find_no (f := fun k : KRow => k.nm) n1, find_no (f := fun k : FRow => k.nm) n2]
theorem fds_ex {ks : List KRow} {fs : List FRow} {z : Str} : FdsOf ks fs z (fdsAt ks fs z) := by
  unfold fdsAt
  cases h : ks.find? fun k => decide (k.nm = z) with
  | some k => exact .inl ⟨k, List.mem_of_find?_eq_some h, (by have := List.find?_some h; simpa using this), rfl⟩
  | none =>
    have n1 : z ∉ ks.map (·.nm) := fun m => by
      obtain ⟨k, mk, e⟩ := List.mem_map.mp m
      exact absurd (decide_eq_true e) (List.find?_eq_none.mp h k mk)
    cases h2 : fs.find? fun k => decide (k.nm = z) with
    | some k => exact .inr (.inl ⟨n1, k, List.mem_of_find?_eq_some h2, (by have := List.find?_some h2; simpa using this), rfl⟩)
    | none => exact .inr (.inr ⟨n1, fun m => by
        obtain ⟨k, mk, e⟩ := List.mem_map.mp m
        exact absurd (decide_eq_true e) (List.find?_eq_none.mp h2 k mk), rfl⟩)
/-- the base inside a statement -/
def ib (ks : List KRow) (fs : List FRow) (z : Str) : St → Str
  | .field f _ _ => ibF ks fs z f
  | .on b _ => b
  | _ => z
mutual
/-- it fits at z, and all inside -/
def fitS (ks : List KRow) (fs : List FRow) (bs : List Str) (D : Str → Prop) (z : Str) : St → Prop
  | .field f k r => r.length ≤ 6 ∧ IsName k ∧ (∃ fl ∈ fdsAt ks fs z, fl.1 = f ∧ (r = [] ∨ fl.2.2.tgt ∉ [("number" : Str), ("text" : Str)])) ∧ fitR ks fs bs D (ibF ks fs z f) r
  | .kind k => IsName k
  | .on b r => b ∈ bs ∧ b ∉ [("number" : Str), ("text" : Str)] ∧ r.length ≤ 6 ∧ fitR ks fs bs D b r
  | .part p => D p
  | .iff f _ r => IsName f ∧ r.length ≤ 6 ∧ fitR ks fs bs D z r
def fitR (ks : List KRow) (fs : List FRow) (bs : List Str) (D : Str → Prop) (z : Str) : List St → Prop
  | [] => True
  | s :: r => fitS ks fs bs D z s ∧ fitR ks fs bs D z r
end
mutual
/-- what stands inside a statement -/
def prS (ks : List KRow) (fs : List FRow) (pl : List Key) (z : Str) : St → List Itm
  | .field f _ r => prR ks fs pl (ibF ks fs z f) 0 r
  | .kind _ => []
  | .on b r => prR ks fs pl b 0 r
  | .part _ => []
  | .iff _ _ r => prR ks fs pl z 0 r
def prR (ks : List KRow) (fs : List FRow) (pl : List Key) (z : Str) (k : Nat) : List St → List Itm
  | [] => []
  | s :: r => ⟨pl ++ [Sum.inl (k : Int)], z, s⟩ :: (prS ks fs (pl ++ [Sum.inl (k : Int)]) z s ++ prR ks fs pl z (k + 1) r)
end
theorem prS_rows (ks : List KRow) (fs : List FRow) (pl : List Key) (z : Str) (t : St) : prS ks fs pl z t = prR ks fs pl (ib ks fs z t) 0 t.rows := by cases t <;> rfl
structure GoodI (ks : List KRow) (fs : List FRow) (bs : List Str) (D : Str → Prop) (F : List Str) (i : Itm) : Prop where
  ne : i.pl ≠ []
  lv : lvl i.pl ≤ 5
  zb : i.z ∈ bs
  fit : fitS ks fs bs D i.z i.t
  fl : ∀ f, flS i.t = some f → f ∈ F
section
variable {ks : List KRow} {fs : List FRow} {us : List URow} {root : Str} {bs : List Str} {D : Str → Prop} {z : Str} {t : St}
theorem fitS_rows (h : fitS ks fs bs D z t) : t.rows.length ≤ 6 ∧ fitR ks fs bs D (ib ks fs z t) t.rows := by
  cases t with
  | field f k r => exact ⟨h.1, h.2.2.2⟩
  | kind k => exact ⟨Nat.zero_le _, trivial⟩
  | on b r => exact ⟨h.2.2.1, h.2.2.2⟩
  | part p => exact ⟨Nat.zero_le _, trivial⟩
  | iff f b r => exact ⟨h.2.1, h.2.2⟩
theorem fitS_st (ok : SchOk ks fs us root) (h : fitS ks fs (bsOf ks fs us) D z t) {kvs : List (Key × V)} (hD : ∀ p, D p → (valV kvs (Sum.inr p)).isSome = true) : StFit ks fs us kvs z t := by
  cases t with
  | field f k r =>
    obtain ⟨h1, h2, ⟨fl, m, e, x⟩, _⟩ := h
    exact ⟨h1, h2, fun fds hf => ⟨fl, by rw [fds_eq ok hf]; exact m, e, x⟩⟩
  | kind k => exact h
  | on b r => exact ⟨h.1, h.2.1, h.2.2.1⟩
  | part p => exact hD p h
  | iff f b r => exact ⟨h.1, h.2.1⟩
theorem fitS_in (ok : SchOk ks fs us root) (h : fitS ks fs bs D z t) : InB ks fs z t (ib ks fs z t) := by
  cases t with
  | field f k r =>
    obtain ⟨h1, h2, ⟨fl, m, e, x⟩, _⟩ := h
    intro fds hf
    have e2 := fds_eq ok hf
    subst e2
    refine ⟨fl, m, e, ?_⟩
    show ibF ks fs z f = _
    unfold ibF
    rw [← e, find_is (f := fun fl : Fld => fl.1) (hf.nd ok) m]
  | kind k => exact rfl
  | on b r => exact rfl
  | part p => exact rfl
  | iff f b r => exact rfl
end
section
variable {P : Program} {w : World} {K : PySem.W.Frag} {mg : Str → Option Value} {base : Heap}
def spIsWrong (C : Addr) : Sp := fun vs H Q _ => ∃ (x pa bf : Addr) (v : V) (ps : List PRow) (xs : List V) (its : List Itm) (i : Itm) (F : List Str) (D : Str → Prop) (ks : List KRow) (fs : List FRow) (us : List URow) (root : Str), vs = [.ref x, .ref pa, .ref bf, v] ∧ BuiltAt C H x ks fs us root ∧ SchOk ks fs us root ∧
  H pa = some (.dK (ptv ps)) ∧ (∀ p, D p → (valV (ptv ps) (Sum.inr p)).isSome = true) ∧ H bf = some (.lst xs) ∧ ItsAt H xs its ∧ ItmAt H v i ∧ GoodI ks fs (bsOf ks fs us) D F i ∧ its.length < 40 ∧ (∀ j ∈ its, ∀ f, flS j.t = some f → f ∈ F) ∧ F.length ≤ 3 ∧ ∀ H', Same H H' → Q (.bl false) H'
theorem ok_is_wrong {f f1 f2 f3 C : Addr} {fd fd1 fd2 fd3 : FuncData} {t1 t2 t3 : Tok} (D : Df K mg "is_wrong" s_is_wrong f fd ["schema", "parts", "before", "item"]) (D_level_of : Df K mg "level_of" s_level_of f1 fd1 ["place"]) (G_level_of : FnOk P w K mg base CX0 1 f1 fd1 ["place"] spLevel)
    (D_is_statement : Df K mg "is_statement" s_is_statement f2 fd2 ["schema", "parts", "base", "statement"]) (G_is_statement : FnOk P w K mg base CX0 8 f2 fd2 ["schema", "parts", "base", "statement"] (spIsStatement C))
    (D_flags_of : Df K mg "flags_of" s_flags_of f3 fd3 ["statements"]) (G_flags_of : FnOk P w K mg base CX0 1 f3 fd3 ["statements"] (spFlagsOf K)) (gL : mg "MOST_LEVELS" = some (.int 5 t1)) (gS : mg "MOST_STATEMENTS" = some (.int 40 t2)) (gF : mg "MOST_FLAGS" = some (.int 3 t3)) (T : Nms mg) :
    FnOk P w K mg base CX0 9 f fd ["schema", "parts", "before", "item"] (spIsWrong C) := by
  refine D.F.ok sc_is_wrong (fun vs H Q E h => ?_) (fun cdv A outer s H vs Q E hr h => ?_)
  · obtain ⟨x, pa, bf, v, ps, xs, its, i, F, DD, ks, fs, us, root, rfl, _⟩ := h
    rfl
  · obtain ⟨x, pa, bf, v, ps, xs, its, i, F, DD, ks, fs, us, root, rfl, Bt, ok, hpa, hD, hbf, hits, hi, good, few, hfl, f3', q⟩ := h
    refine ⟨_, (pss_cons (ps_asg (pv 3) (pg_tup (by rfl) (pgs_cons (pg_name (i := 4) sc_is_wrong.nd rfl (.inl rfl)) (pgs_cons (pg_name (i := 5) sc_is_wrong.nd rfl (.inl rfl)) (pgs_cons (pg_name (i := 6) sc_is_wrong.nd rfl (.inl rfl)) pgs_nil)))))
      (pss_cons (ps_if (PW.pt (pw_or (pt_cmpR op_gt (pe_call G_level_of (hr.mono (by decide)) (by rfl) D_level_of.g D_level_of.F.kp D_level_of.b .nil pass0 (pa_cons (pv 4) pa_nil)) (pe_glob (v := .int 5) (by rfl) gL ⟨_, rfl⟩) (nomark _)) (pw_or1 (pt_cmpR op_ge (pe_callB call_len_seq (by rfl) T.n_len (by decide +kernel) (pa_cons (pv 2) pa_nil)) (pe_glob (v := .int 40) (by rfl) gS ⟨_, rfl⟩) (nomark _)))))
       (pss_one (ps_ret pe_bl))
       pss_nil)
      (pss_cons (ps_if (pt_not (pt_val (pe_call G_is_statement (hr.mono (by decide)) (by rfl) D_is_statement.g D_is_statement.F.kp D_is_statement.b .nil pass0 (pa_cons (pv 0) (pa_cons (pv 1) (pa_cons (pv 5) (pa_cons (pv 6) pa_nil)))))))
       (pss_one (ps_ret pe_bl))
       pss_nil)
      (pss_one (ps_ret (pe_cmpR op_gt (pe_callB call_len_seq (by rfl) T.n_len (by decide +kernel) (pa_cons (pe_call G_flags_of (hr.mono (by decide)) (by rfl) D_flags_of.g D_flags_of.F.kp D_flags_of.b .nil pass0 (pa_cons (pe_lc (own := [("known", 7)]) (g := (gName 7)) (tt := tYes) rfl sc_is_wrong.nd (pi_list (pe_lst (StX.pa_star (pv 2) (pa_cons (pv 3) pa_nil)))) (blkOk_by (own := [("known", 7)]) (N := N_is_wrong) (sc := defScope s_is_wrong) (by decide +kernel)) (fun _ _ _ _ _ => (pg_name (i := 7) sc_is_wrong.nd rfl (.inl rfl))) (fun _ _ _ _ _ => pts_nil) (fun _ _ _ _ _ => (pe_ix (ix_tupK K) (pv 7) pe_int (fun _ _ => rfl)))) pa_nil)) pa_nil)) (pe_glob (v := .int 3) (by rfl) gF ⟨_, rfl⟩) (nomark _))))))), ?_⟩
    have lt : ∀ n : Nat, n ≤ 1000 → n < sizeLine := fun n h => Nat.lt_of_le_of_lt h (by decide)
    have hS : ∀ n : Nat, n ≤ 1000 → n ≤ sizeLine := fun n h => Nat.le_trans h (by decide)
    obtain ⟨a, p, st, rfl, h1, h2, h3⟩ := id hi
    have lx := hits.1
    refine ⟨.ref a, rfl, a, _, rfl, .inl (.inl h1), rfl, _, _, rfl, _, _, rfl, _, _, rfl, rfl, ?_⟩
    refine ⟨.ref p, rfl, p, i.pl, rfl, h2, good.ne, _, _, rfl, rfl, false, blF (by have := good.lv; omega), iteF ⟨.ref bf, rfl, bf, xs, rfl, .inl (SqL.of hbf), _, _, rfl, rfl, false, blF (by omega), iteF ?_⟩⟩
    refine ⟨.ref x, rfl, .ref pa, rfl, .str i.z, rfl, st, rfl, x, pa, ptv ps, i.z, st, i.t, ks, fs, us, root, rfl, Bt, ok, good.zb, hpa, h3, fitS_st ok good.fit hD, fun H1 s1 => ⟨true, rfl, iteF ?_⟩⟩
    have hits1 := hits.tk (Same.tk s1)
    have hi1 := hi.tk (Same.tk s1)
    refine ⟨.ref bf, rfl, bf, xs, rfl, .inr (SqL.of (s1 _ _ hbf)), .ref a, rfl, hS _ (by rw [List.length_append, lx]; show its.length + 1 ≤ 1000; omega), fun pl npl => ⟨pl, rfl, ⟨_, SqL.of upd_same⟩, fun Da nD => ?_⟩⟩
    have s2 := s1.trans (same_new (o := .lst (xs ++ [.ref a])) npl)
    have e2 : (upd H1 pl (.lst (xs ++ [.ref a]))) pl = some (.lst (xs ++ [.ref a])) := upd_same
    have hall : ItsAt (upd H1 pl (.lst (xs ++ [.ref a]))) (xs ++ [.ref a]) (its ++ [i]) := by
      have k := Same.tk (same_new (o := .lst (xs ++ [.ref a])) npl)
      refine ⟨by rw [List.length_append, List.length_append, lx]; rfl, fun j v e => ?_⟩
      by_cases hj : j < xs.length
      · rw [List.getElem?_append_left hj] at e
        obtain ⟨i', e', hi'⟩ := hits1.2 j v e
        exact ⟨i', by rw [List.getElem?_append_left (by omega)]; exact e', hi'.tk k⟩
      · rw [List.getElem?_append_right (by omega)] at e
        have : j - xs.length = 0 := by
          by_cases h0 : j - xs.length = 0
          · exact h0
          · rw [List.getElem?_eq_none (by show 1 ≤ j - xs.length; omega)] at e
            cases e
        rw [this] at e
        cases e
        exact ⟨i, by rw [List.getElem?_append_right (by omega), show j - its.length = 0 by omega]; rfl, hi1.tk k⟩
    generalize upd H1 pl (.lst (xs ++ [.ref a])) = H2 at s2 e2 hall nD
    have l41 : (xs ++ [V.ref a]).length = its.length + 1 := by rw [List.length_append, lx]; rfl
    refine lc_it (walk_list (xs := xs ++ [.ref a])) (fun j H' => Same H2 H' ∧ ∃ ys, H' Da = some (.lst ys) ∧ AllAt H2 ys (((its ++ [i]).take j).map (·.t))) ⟨same_new nD, [], upd_same, .nil⟩ (fun j H2 _ h => SqL.of (h.1 _ _ e2)) ?_ ?_
    · rintro j y H3 H4 hj ⟨s4, ys, e4, al⟩ ⟨rfl, ey⟩
      obtain ⟨i', ei, hi'⟩ := hall.2 j y ey
      obtain ⟨a', p', st', rfl, g1, g2, g3⟩ := hi'
      have ly := al.len
      rw [List.length_map, List.length_take, List.length_append] at ly
      refine ⟨rfl, lcT ⟨.ref a', rfl, a', _, 2, _, rfl, rfl, .inl (.inl (s4 _ _ g1)), atI_nat (j := 2) rfl, ys, e4, lt _ (by have : ([i] : List Itm).length = 1 := rfl; omega), same_upd s4 nD, ys ++ [st'], upd_same, ?_⟩⟩
      rw [takeS ei, List.map_append]
      exact al.snoc g3
    · rintro H3 ⟨s3, ys, e3, al⟩
      rw [l41, List.take_of_length_le (by rw [List.length_append]; exact Nat.le_refl _)] at al
      have ls : ((its ++ [i]).map (·.t)).length < 64 := by
        rw [List.length_map, List.length_append]
        show its.length + 1 < 64
        omega
      refine ⟨Da, ys, _, rfl, SqL.of e3, al.same s3, ls, fun fl p4 H5 nd so me s5 n5 e5 => ⟨p4, _, rfl, .inl (SqL.of e5), _, _, rfl, rfl, ?_⟩⟩
      have sub : ∀ z ∈ fl, z ∈ F := fun z m => by
        obtain ⟨t, mt, et⟩ := List.mem_filterMap.mp ((me z).mp m)
        obtain ⟨j, mj, rfl⟩ := List.mem_map.mp mt
        rcases List.mem_append.mp mj with mj | mj
        · exact hfl j mj z et
        · rw [List.mem_singleton.mp mj] at et
          exact good.fl z et
      have l3 := Nat.le_trans (nd_len nd sub) f3'
      have e9 : decide ((3 : Int) < ((fl.map V.str).length : Int)) = false := decide_eq_false (by rw [List.length_map]; omega)
      show Q (V.bl (decide ((3 : Int) < ((fl.map V.str).length : Int)))) H5
      rw [e9]
      exact q _ ((s2.trans s3).trans s5)
end
end NW
namespace NW
open PySem PySem.Spec PyProof.Rows L2
open TL (tl)
open StX (pa_star)
abbrev s_statements_below : Stmt := topS 41
abbrev N_statements_below : List Str := ["schema", "parts", "before", "top", "found", "waiting", "item", "place", "base", "statement"]
theorem sc_statements_below : FnScope N_statements_below ["schema", "parts", "before", "top"] (defScope s_statements_below) := ⟨rfl, rfl, rfl, by decide +kernel, rfl, by decide +kernel, by decide +kernel⟩
def topI (pl : List Key) (z : Str) : Nat → List St → List Itm
  | _, [] => []
  | k, s :: r => ⟨pl ++ [Sum.inl (k : Int)], z, s⟩ :: topI pl z (k + 1) r
def flatI (ks : List KRow) (fs : List FRow) (l : List Itm) : List Itm := l.flatMap fun i => i :: prS ks fs i.pl i.z i.t
theorem flat_top (ks : List KRow) (fs : List FRow) (pl : List Key) (z : Str) : ∀ (rows : List St) (k : Nat), flatI ks fs (topI pl z k rows) = prR ks fs pl z k rows
  | [], _ => rfl
  | s :: r, k => by
    have ih := flat_top ks fs pl z r (k + 1)
    show _ :: (prS ks fs (pl ++ [Sum.inl (k : Int)]) z s ++ flatI ks fs (topI pl z (k + 1) r)) = _
    rw [ih]
    rfl
theorem topI_len (pl : List Key) (z : Str) : ∀ (rows : List St) (k : Nat), (topI pl z k rows).length = rows.length
  | [], _ => rfl
  | s :: r, k => by
    show (topI pl z (k + 1) r).length + 1 = r.length + 1
    rw [topI_len pl z r (k + 1)]
theorem topI_get (pl : List Key) (z : Str) : ∀ (rows : List St) (k i : Nat) {t : St}, rows[i]? = some t → (topI pl z k rows)[i]? = some ⟨pl ++ [Sum.inl ((k + i : Nat) : Int)], z, t⟩
  | s :: r, k, 0, t, h => by cases h; rfl
  | s :: r, k, i + 1, t, h => by
    have := topI_get pl z r (k + 1) i (t := t) h
    show (topI pl z (k + 1) r)[i]? = _
    rw [this, show k + 1 + i = k + (i + 1) by omega]
theorem flat_append (ks : List KRow) (fs : List FRow) (a b : List Itm) : flatI ks fs (a ++ b) = flatI ks fs a ++ flatI ks fs b := List.flatMap_append
theorem flat_len (ks : List KRow) (fs : List FRow) : ∀ l : List Itm, l.length ≤ (flatI ks fs l).length
  | [] => Nat.le_refl _
  | i :: r => by
    have := flat_len ks fs r
    show r.length + 1 ≤ (i :: (prS ks fs i.pl i.z i.t ++ flatI ks fs r)).length
    rw [List.length_cons, List.length_append]
    omega
theorem ItsAt.app {H : Hp} {xs ys : List V} {a b : List Itm} (h : ItsAt H xs a) (k : ItsAt H ys b) : ItsAt H (xs ++ ys) (a ++ b) := by
  refine ⟨by rw [List.length_append, List.length_append, h.1, k.1], fun j v e => ?_⟩
  by_cases hj : j < xs.length
  · rw [List.getElem?_append_left hj] at e
    obtain ⟨i, e', hi⟩ := h.2 j v e
    exact ⟨i, by rw [List.getElem?_append_left (by have := h.1; omega)]; exact e', hi⟩
  · rw [List.getElem?_append_right (by omega)] at e
    obtain ⟨i, e', hi⟩ := k.2 _ v e
    exact ⟨i, by rw [List.getElem?_append_right (by have := h.1; omega), ← h.1]; exact e', hi⟩
theorem ItsAt.one {H : Hp} {v : V} {i : Itm} (h : ItmAt H v i) : ItsAt H [v] [i] := ⟨rfl, fun j w e => by
  cases j with
  | zero => cases e; exact ⟨i, rfl, h⟩
  | succ j => cases e⟩
theorem ItsAt.init {H : Hp} {xs : List V} {v : V} {a : List Itm} (h : ItsAt H (xs ++ [v]) a) : ∃ b i, a = b ++ [i] ∧ ItsAt H xs b ∧ ItmAt H v i := by
  have hl := h.1
  rw [List.length_append] at hl
  rcases List.eq_nil_or_concat a with rfl | ⟨b, i, rfl⟩
  · have h1 : xs.length + 1 = 0 := hl
    omega
  · simp only [List.concat_eq_append] at *
    rw [List.length_append] at hl
    have hb : xs.length = b.length := Nat.succ.inj hl
    refine ⟨b, i, rfl, ⟨hb, fun j w e => ?_⟩, ?_⟩
    · have hj : j < xs.length := by
        by_cases hj : j < xs.length
        · exact hj
        · rw [List.getElem?_eq_none (by omega)] at e
          cases e
      obtain ⟨i', e', hi'⟩ := h.2 j w (by rw [List.getElem?_append_left hj]; exact e)
      rw [List.getElem?_append_left (by omega)] at e'
      exact ⟨i', e', hi'⟩
    · obtain ⟨i', e', hi'⟩ := h.2 xs.length v (by rw [List.getElem?_append_right (Nat.le_refl _), Nat.sub_self]; rfl)
      rw [List.getElem?_append_right (by omega), show xs.length - b.length = 0 by omega] at e'
      cases e'
      exact hi'
theorem lvl_len {pl : List Key} {n : Nat} (h : lvl pl ≤ n) : pl.length ≤ n + 1 := by
  cases pl with
  | nil => exact Nat.zero_le _
  | cons k r =>
    cases k with
    | inl i => have : r.length + 1 ≤ n := h; show r.length + 1 ≤ n + 1; omega
    | inr z => have : r.length ≤ n := h; show r.length + 1 ≤ n + 1; omega
section
variable {P : Program} {w : World} {K : PySem.W.Frag} {mg : Str → Option Value} {base : Heap}
def spBelow (C : Addr) : Sp := fun vs H Q _ => ∃ (x pa bf top p0 : Addr) (pl : List Key) (z : Str) (r : V) (rows : List St) (ps : List PRow) (xs : List V) (its : List Itm) (F : List Str) (D : Str → Prop) (ks : List KRow) (fs : List FRow) (us : List URow) (root : Str), vs = [.ref x, .ref pa, .ref bf, .ref top] ∧ BuiltAt C H x ks fs us root ∧ SchOk ks fs us root ∧
  H pa = some (.dK (ptv ps)) ∧ (∀ p, D p → (valV (ptv ps) (Sum.inr p)).isSome = true) ∧ H bf = some (.lst xs) ∧ ItsAt H xs its ∧ H top = some (.tup [.ref p0, .str z, r]) ∧ H p0 = some (.tup (pl.map kV)) ∧ pl.length ≤ 10 ∧ RowAt H r rows ∧ rows.length ≤ 6 ∧
  (∀ i ∈ prR ks fs pl z 0 rows, GoodI ks fs (bsOf ks fs us) D F i) ∧ its.length + (prR ks fs pl z 0 rows).length ≤ 40 ∧ (∀ j ∈ its, ∀ f, flS j.t = some f → f ∈ F) ∧ F.length ≤ 3 ∧
  ∀ p ys H', Same H H' → H p = none → H' p = some (.lst ys) → ItsAt H' ys (its ++ prR ks fs pl z 0 rows) → Q (.ref p) H'
theorem ok_below {f f1 f2 f3 f4 C : Addr} {fd fd1 fd2 fd3 fd4 : FuncData} (D : Df K mg "statements_below" s_statements_below f fd ["schema", "parts", "before", "top"]) (D_items_of : Df K mg "items_of" s_items_of f1 fd1 ["top"]) (G_items_of : FnOk P w K mg base CX0 1 f1 fd1 ["top"] spItemsOf)
    (D_is_wrong : Df K mg "is_wrong" s_is_wrong f2 fd2 ["schema", "parts", "before", "item"]) (G_is_wrong : FnOk P w K mg base CX0 9 f2 fd2 ["schema", "parts", "before", "item"] (spIsWrong C))
    (D_inner_base : Df K mg "inner_base" s_inner_base f3 fd3 ["schema", "base", "statement"]) (G_inner_base : FnOk P w K mg base CX0 7 f3 fd3 ["schema", "base", "statement"] (spInnerBase C))
    (D_inner_rows : Df K mg "inner_rows" s_inner_rows f4 fd4 ["statement"]) (G_inner_rows : FnOk P w K mg base CX0 1 f4 fd4 ["statement"] spInnerRows) (T : Nms mg) : FnOk P w K mg base CX0 10 f fd ["schema", "parts", "before", "top"] (spBelow C) := by
  refine D.F.ok sc_statements_below (fun vs H Q E h => ?_) (fun cdv A outer s H vs Q E hr h => ?_)
  · obtain ⟨x, pa, bf, top, p0, pl, z, r, rows, ps, xs, its, F, DD, ks, fs, us, root, rfl, _⟩ := h
    rfl
  · obtain ⟨x, pa, bf, top, p0, pl, z, r, rows, ps, xs, its, F, DD, ks, fs, us, root, rfl, Bt, ok, hpa, hD, hbf, hits, htop, hp0, pl10, hrow, r6, good, few, hfl, f3', q⟩ := h
    refine ⟨_, (pss_cons (ps_set (i := 4) sc_statements_below.nd rfl (.inl rfl) (pe_callTy call_list_of (by rfl) T.n_list (by decide +kernel) (pa_cons (pv 2) pa_nil)))
      (pss_cons (ps_set (i := 5) sc_statements_below.nd rfl (.inl rfl) (pe_callTy call_list_of (by rfl) T.n_list (by decide +kernel) (pa_cons (pe_call G_items_of (hr.mono (by decide)) (by rfl) D_items_of.g D_items_of.F.kp D_items_of.b .nil pass0 (pa_cons (pv 3) pa_nil)) pa_nil)))
      (pss_cons (ps_while PassesOwn.never (pt_truth (pv 5) (by intro _; rfl))
       (pss_cons (ps_set (i := 6) sc_statements_below.nd rfl (.inl rfl) (pe_bm0 PySem.F.plainAttrs_list PySem.F.slot_list_pop PySem.F.type_list_pop mt_pop (pv 5)))
        (pss_cons (ps_if (pt_val (pe_call G_is_wrong (hr.mono (by decide)) (by rfl) D_is_wrong.g D_is_wrong.F.kp D_is_wrong.b .nil pass0 (pa_cons (pv 0) (pa_cons (pv 1) (pa_cons (pv 4) (pa_cons (pv 6) pa_nil))))))
         (pss_one ps_never)
         pss_nil)
        (pss_cons (ps_expr (pe_bm PySem.F.plainAttrs_list PySem.F.slot_list_append PySem.F.type_list_append mt_append (pv 4) (pa_cons (pv 6) pa_nil)))
        (pss_cons (ps_asg (pv 6) (pg_tup (by rfl) (pgs_cons (pg_name (i := 7) sc_statements_below.nd rfl (.inl rfl)) (pgs_cons (pg_name (i := 8) sc_statements_below.nd rfl (.inl rfl)) (pgs_cons (pg_name (i := 9) sc_statements_below.nd rfl (.inl rfl)) pgs_nil)))))
        (pss_one (ps_expr (pe_bm PySem.F.plainAttrs_list PySem.F.slot_list_extend PySem.F.type_list_extend mt_extend (pv 5) (pa_cons (pe_call G_items_of (hr.mono (by decide)) (by rfl) D_items_of.g D_items_of.F.kp D_items_of.b .nil pass0 (pa_cons (pe_tup (pa_cons (pv 7) (pa_cons (pe_call G_inner_base (hr.mono (by decide)) (by rfl) D_inner_base.g D_inner_base.F.kp D_inner_base.b .nil pass0 (pa_cons (pv 0) (pa_cons (pv 8) (pa_cons (pv 9) pa_nil)))) (pa_cons (pe_call G_inner_rows (hr.mono (by decide)) (by rfl) D_inner_rows.g D_inner_rows.F.kp D_inner_rows.b .nil pass0 (pa_cons (pv 9) pa_nil)) pa_nil)))) pa_nil)) pa_nil)))))))))
      (pss_one (ps_ret (pv 4)))))), ?_⟩
    have lt : ∀ n : Nat, n ≤ 1000 → n < sizeLine := fun n h => Nat.lt_of_le_of_lt h (by decide)
    have hS : ∀ n : Nat, n ≤ 1000 → n ≤ sizeLine := fun n h => Nat.le_trans h (by decide)
    -- items of a top as a list
    have items : ∀ {pl : List Key} {z : Str} {rows : List St} {xs : List V} {q : Addr} {H' G : Hp}, xs.length = rows.length → (∀ (i : Nat) v, xs[i]? = some v → ∃ t, rows[rows.length - 1 - i]? = some t ∧ ∀ G, Gr q H' G → ItemAt G v (pl ++ [Sum.inl (((rows.length - 1 - i : Nat)) : Int)]) z t) → Gr q H' G → ItsAt G xs (topI pl z 0 rows).reverse := by
      intro pl z rows xs q H' G hl al g
      refine ⟨by rw [List.length_reverse, topI_len, hl], fun j v e => ?_⟩
      obtain ⟨t, et, ht⟩ := al j v e
      have hj : j < rows.length := by
        by_cases hj : j < xs.length
        · omega
        · rw [List.getElem?_eq_none (by omega)] at e
          cases e
      refine ⟨⟨pl ++ [Sum.inl ((rows.length - 1 - j : Nat) : Int)], z, t⟩, ?_, ht G g⟩
      rw [List.getElem?_reverse (by rw [topI_len]; exact hj), topI_len, topI_get pl z rows 0 _ et, Nat.zero_add]
    refine ⟨.ref bf, rfl, bf, xs, rfl, .inl (SqL.of hbf), fun pf npf => ?_⟩
    have s0 := same_new (o := .lst xs) npf
    have e0 : (upd H pf (.lst xs)) pf = some (.lst xs) := upd_same
    generalize upd H pf (.lst xs) = H0 at s0 e0
    refine ⟨.ref top, rfl, top, p0, pl, z, r, rows, rfl, s0 _ _ htop, s0 _ _ hp0, by omega, hrow.same s0, by omega, fun q1 xs1 H1 s1 n1 eq1 l1 al1 => ⟨q1, xs1, rfl, .inl (SqL.of eq1), fun pw npw => ?_⟩⟩
    have s2 := same_new (o := .lst xs1) npw
    have s02 := (s0.trans s1).trans s2
    have e2f := (s1.trans s2) _ _ e0
    have e2w : (upd H1 pw (.lst xs1)) pw = some (.lst xs1) := upd_same
    have i2 : ItsAt (upd H1 pw (.lst xs1)) xs1 (topI pl z 0 rows).reverse := items l1 al1 (Same.gr s2)
    have n_fw : pf ≠ pw := fun e => by rw [← e, s1 _ _ e0] at npw; cases npw
    have npw0 : H pw = none := (s0.trans s1).free npw
    generalize upd H1 pw (.lst xs1) = H2 at s2 s02 e2f e2w i2
    have hits2 := hits.tk (Same.tk s02)
    generalize hTT : prR ks fs pl z 0 rows = TT at good few q
    dsimp only
    refine gNm (seqW (while_by (fun σ H' => ∃ (dn W : List Itm) (ys ws : List V) (y6 y7 y8 y9 : Option V), σ = [some (.ref x), some (.ref pa), some (.ref bf), some (.ref top), some (.ref pf), some (.ref pw), y6, y7, y8, y9] ∧ Same H H' ∧ H' pf = some (.lst ys) ∧ ItsAt H' ys (its ++ dn) ∧ H' pw = some (.lst ws) ∧ ItsAt H' ws W ∧ dn ++ flatI ks fs W.reverse = TT) (fun _ H' => 100 - lenAt H' pf) ?_ ?_ ?_))
    · refine ⟨[], (topI pl z 0 rows).reverse, xs, xs1, _, _, _, _, rfl, s02, e2f, by rw [List.append_nil]; exact hits2, e2w, i2, ?_⟩
      rw [List.reverse_reverse, List.nil_append, flat_top]
      exact hTT
    · rintro σ H3 ⟨dn, W, ys, ws, y6, y7, y8, y9, rfl, s3, ef, hf, ew, hw, tot⟩
      have lT := congrArg List.length tot
      rw [List.length_append] at lT
      have lf := hf.1
      rw [List.length_append] at lf
      refine ⟨.ref pw, rfl, !ws.isEmpty, .inl ⟨ws, SqL.of ew, rfl⟩, ?_⟩
      rcases List.eq_nil_or_concat ws with rfl | ⟨wi, v, rfl⟩
      · have hW : W = [] := List.eq_nil_of_length_eq_zero hw.1.symm
        subst hW
        have : dn = TT := by rw [← tot]; exact (List.append_nil _).symm
        subst this
        exact iteF ⟨.ref pf, rfl, q pf ys H3 s3 npf ef hf⟩
      · simp only [List.concat_eq_append] at *
        have hne : (!(wi ++ [v]).isEmpty) = true := by simp
        rw [hne]
        refine iteT ?_
        obtain ⟨Wi, i, rfl, hwi, hi⟩ := hw.init
        have htot : dn ++ (i :: (prS ks fs i.pl i.z i.t ++ flatI ks fs Wi.reverse)) = TT := by
          rw [← tot, List.reverse_append]
          rfl
        have gi : GoodI ks fs (bsOf ks fs us) DD F i := good i (by rw [← htot]; exact List.mem_append_right _ List.mem_cons_self)
        have lT2 := congrArg List.length htot
        rw [List.length_append, List.length_cons, List.length_append] at lT2
        have hlast : (wi ++ [v])[(wi ++ [v]).length - 1]? = some v := by
          rw [List.length_append, List.length_singleton, Nat.add_sub_cancel, List.getElem?_append_right (Nat.le_refl _), Nat.sub_self]
          rfl
        refine ⟨.ref pw, rfl, .inl ⟨rfl, _, SqL.of ew⟩, pw, _, v, rfl, rfl, ew, hlast, ?_⟩
        rw [List.dropLast_concat]
        have k1 : Tk H3 (upd H3 pw (.lst wi)) := Tk.upd ew (fun _ z => nomatch z)
        have ef1 : (upd H3 pw (.lst wi)) pf = some (.lst ys) := by rw [upd_ne n_fw]; exact ef
        have ew1 : (upd H3 pw (.lst wi)) pw = some (.lst wi) := upd_same
        have s4 := same_upd (o := .lst wi) s3 npw0
        generalize upd H3 pw (.lst wi) = H4 at k1 ef1 ew1 s4
        have hf4 := hf.tk k1
        have hwi4 := hwi.tk k1
        have hi4 := hi.tk k1
        refine ⟨.ref x, rfl, .ref pa, rfl, .ref pf, rfl, v, rfl, x, pa, pf, v, ps, ys, its ++ dn, i, F, DD, ks, fs, us, root, rfl, Bt.same s4, ok, s4 _ _ hpa, hD, ef1, hf4, hi4, gi, by rw [List.length_append]; omega, fun j mj f ej => ?_, f3', fun H5 s5 => ⟨false, rfl, iteF ?_⟩⟩
        · rcases List.mem_append.mp mj with mj | mj
          · exact hfl j mj f ej
          · exact (good j (by rw [← tot]; exact List.mem_append_left _ mj)).fl f ej
        have hi5 := hi4.tk (Same.tk s5)
        refine ⟨.ref pf, rfl, .inl ⟨rfl, _, SqL.of (s5 _ _ ef1)⟩, v, rfl, pf, _, _, rfl, rfl, s5 _ _ ef1, lt _ (by rw [lf]; omega), ?_⟩
        have k5 : Tk H5 (upd H5 pf (.lst (ys ++ [v]))) := Tk.upd (s5 _ _ ef1) (fun _ z => nomatch z)
        have ef6 : (upd H5 pf (.lst (ys ++ [v]))) pf = some (.lst (ys ++ [v])) := upd_same
        have ew6 : (upd H5 pf (.lst (ys ++ [v]))) pw = some (.lst wi) := by rw [upd_ne (Ne.symm n_fw)]; exact s5 _ _ ew1
        have s6 := same_upd (o := .lst (ys ++ [v])) (s4.trans s5) npf
        generalize upd H5 pf (.lst (ys ++ [v])) = H6 at k5 ef6 ew6 s6
        have hi6 := hi5.tk k5
        have hf6 : ItsAt H6 (ys ++ [v]) (its ++ (dn ++ [i])) := by
          rw [← List.append_assoc]
          exact ((hf4.tk (Same.tk s5)).tk k5).app (.one hi6)
        have hwi6 := (hwi4.tk (Same.tk s5)).tk k5
        obtain ⟨a, p, st, rfl, h1, h2, h3⟩ := id hi6
        refine ⟨.ref a, rfl, a, _, rfl, .inl (.inl h1), rfl, _, _, rfl, _, _, rfl, _, _, rfl, rfl, ?_⟩
        refine ⟨.ref pw, rfl, .inl ⟨rfl, _, SqL.of ew6⟩, .ref p, rfl, .ref x, rfl, .str i.z, rfl, st, rfl, x, i.z, st, i.t, ks, fs, us, root, ib ks fs i.z i.t, rfl, Bt.same s6, ok, gi.zb, h3, fitS_in ok gi.fit, fun H7 s7 => ?_⟩
        refine ⟨st, rfl, st, i.t, rfl, h3.same s7, fun r2 H8 s8 hr8 => ⟨hS 3 (by decide), fun tt ntt => ?_⟩⟩
        have s9 := same_new (o := .tup [.ref p, .str (ib ks fs i.z i.t), r2]) ntt
        have e9 : (upd H8 tt (.tup [.ref p, .str (ib ks fs i.z i.t), r2])) tt = some (.tup [.ref p, .str (ib ks fs i.z i.t), r2]) := upd_same
        generalize upd H8 tt (.tup [.ref p, .str (ib ks fs i.z i.t), r2]) = H9 at s9 e9
        have s69 := (s7.trans s8).trans s9
        obtain ⟨rr6, _⟩ := fitS_rows gi.fit
        refine ⟨tt, p, i.pl, ib ks fs i.z i.t, r2, i.t.rows, rfl, e9, s69 _ _ h2, by have := lvl_len gi.lv; omega, hr8.same s9, by omega, fun q2 xs2 H10 s10 n2 eq2 l2 al2 => ?_⟩
        have i10 := items l2 al2 Gr.refl
        have ew10 := (s69.trans s10) _ _ ew6
        have lwi : wi.length ≤ 40 := by
          have := hwi.1
          have h2 := flat_len ks fs Wi.reverse
          rw [List.length_reverse] at h2
          omega
        have k11 : Tk H10 (upd H10 pw (.lst (wi ++ xs2))) := Tk.upd ew10 (fun _ z => nomatch z)
        have k611 : Tk H6 (upd H10 pw (.lst (wi ++ xs2))) := (Same.tk (s69.trans s10)).trans k11
        have ef11 : (upd H10 pw (.lst (wi ++ xs2))) pf = some (.lst (ys ++ [.ref a])) := by rw [upd_ne n_fw]; exact (s69.trans s10) _ _ ef6
        refine ⟨pw, q2, _, _, rfl, rfl, ew10, eq2, hS _ (by omega), ⟨dn ++ [i], Wi ++ (topI i.pl (ib ks fs i.z i.t) 0 i.t.rows).reverse, ys ++ [.ref a], wi ++ xs2, _, _, _, _, rfl, same_upd (s6.trans (s69.trans s10)) npw0, ef11, hf6.tk k611, upd_same, (hwi6.tk k611).app (i10.tk k11), ?_⟩, ?_⟩
        · rw [List.reverse_append, List.reverse_reverse, flat_append, flat_top, ← prS_rows, List.append_assoc]
          exact htot
        · rw [lenAt_of ef11, lenAt_of ef, List.length_append, lf]
          show 100 - (its.length + dn.length + 1) < 100 - (its.length + dn.length)
          omega
    · intro σ H1 Q1 Q2 h ⟨u, e, kk, t, r⟩
      exact ⟨u, e, kk, t, h _ _ r⟩
end
end NW
namespace NW
open PySem PySem.Spec PyProof.Rows L2
open TL (tl)
open StX (pa_star)
abbrev s_checked_statements : Stmt := topS 39
abbrev N_checked_statements : List Str := ["schema", "rows", "parts", "found", "name", "base", "inner"]
theorem sc_checked_statements : FnScope N_checked_statements ["schema", "rows", "parts"] (defScope s_checked_statements) := ⟨rfl, rfl, rfl, by decide +kernel, rfl, by decide +kernel, by decide +kernel⟩
open Classical in
noncomputable def srt (l : List Str) : List Str := if h : ∃ ys : List Str, ys.Perm l ∧ sortedS ys = true then choose h else []
theorem srt_eq {l ys : List Str} (p : ys.Perm l) (s : sortedS ys = true) : srt l = ys := by
  have h : ∃ ys : List Str, ys.Perm l ∧ sortedS ys = true := ⟨ys, p, s⟩
  unfold srt
  rw [dif_pos h]
  obtain ⟨a, b⟩ := Classical.choose_spec h
  exact sorted_one b s (a.trans p.symm)
/-- a list that can be sorted -/
def CanS (l : List Str) : Prop := ∃ ys : List Str, ys.Perm l ∧ sortedS ys = true
theorem CanS.p {l : List Str} (h : CanS l) : (srt l).Perm l := by
  obtain ⟨ys, p, s⟩ := h
  rw [srt_eq p s]
  exact p
theorem lt_asym : ∀ {a b : List Nat}, ltCps a b = true → ltCps b a = false
  | [], [], h => by cases h
  | [], _ :: _, _ => rfl
  | _ :: _, [], h => by cases h
  | x :: a, y :: b, h => by
    simp only [ltCps, Bool.or_eq_true, Bool.and_eq_true, decide_eq_true_eq, beq_iff_eq] at h
    simp only [ltCps, Bool.or_eq_false_iff, decide_eq_false_iff_not, Bool.and_eq_false_iff, beq_eq_false_iff_ne]
    rcases h with h | ⟨e, h⟩
    · exact ⟨by omega, .inl (by omega)⟩
    · exact ⟨by omega, .inr (lt_asym h)⟩
theorem can_all (l : List Str) : CanS l := by
  refine ⟨l.mergeSort (fun a b => !ltCps (tl b) (tl a)), List.mergeSort_perm l _, sortedS_of_pairwise _ ?_⟩
  refine (List.pairwise_mergeSort (le := fun a b => !ltCps (tl b) (tl a)) (fun a b c h1 h2 => ?_) (fun a b => ?_) l).imp fun {a b} h => by simpa using h
  · simp only [Bool.not_eq_true'] at h1 h2 ⊢
    exact lt_trans' h1 h2
  · cases h : ltCps (tl b) (tl a)
    · rfl
    · rw [lt_asym h]
      rfl
theorem srt_perm (l : List Str) : (srt l).Perm l := (can_all l).p
theorem srt_sorted (l : List Str) : sortedS (srt l) = true := by
  obtain ⟨ys, p, s⟩ := can_all l
  rw [srt_eq p s]
  exact s

/-! ### what all statements of a question are -/
def pItems (ks : List KRow) (fs : List FRow) (ps : List PRow) (n : Str) : List Itm := match ps.find? fun p => decide (p.nm = n) with | some p => prR ks fs [Sum.inr n] p.z 0 p.rows | none => []
theorem pItems_of {ks : List KRow} {fs : List FRow} {ps : List PRow} (nd : (ps.map (·.nm)).Nodup) {p : PRow} (m : p ∈ ps) : pItems ks fs ps p.nm = prR ks fs [Sum.inr p.nm] p.z 0 p.rows := by
  unfold pItems
  rw [find_is (f := fun p : PRow => p.nm) nd m]
noncomputable def allItems (ks : List KRow) (fs : List FRow) (ps : List PRow) (root : Str) (rows : List St) : List Itm := prR ks fs [] root 0 rows ++ (srt (ps.map (·.nm))).flatMap (pItems ks fs ps)
mutual
theorem fit_sm {ks : List KRow} {fs : List FRow} {bs : List Str} {D : Str → Prop} : ∀ {t : St} {z : Str}, fitS ks fs bs D z t → smS t
  | .field f k r, z, h => ⟨h.1, fit_smR h.2.2.2⟩
  | .kind k, z, h => trivial
  | .on b r, z, h => ⟨h.2.2.1, fit_smR h.2.2.2⟩
  | .part p, z, h => trivial
  | .iff f b r, z, h => ⟨h.2.1, fit_smR h.2.2⟩
theorem fit_smR {ks : List KRow} {fs : List FRow} {bs : List Str} {D : Str → Prop} : ∀ {r : List St} {z : Str}, fitR ks fs bs D z r → smR r
  | [], z, h => trivial
  | s :: r, z, h => ⟨fit_sm h.1, fit_smR h.2⟩
end
mutual
theorem pr_part {ks : List KRow} {fs : List FRow} {D : Str → Prop} : ∀ {t : St} {pl : List Key} {z : Str}, refS D t → ∀ i ∈ prS ks fs pl z t, (∀ p, i.t = .part p → D p) ∧ ∃ r, i.pl = pl ++ r ∧ r ≠ []
  | .field f k r, pl, z, h => pr_partR (r := r) h
  | .kind k, pl, z, h => fun i m => by cases m
  | .on b r, pl, z, h => pr_partR (r := r) h
  | .part p, pl, z, h => fun i m => by cases m
  | .iff f b r, pl, z, h => pr_partR (r := r) h
theorem pr_partR {ks : List KRow} {fs : List FRow} {D : Str → Prop} : ∀ {r : List St} {pl : List Key} {z : Str} {k : Nat}, refR D r → ∀ i ∈ prR ks fs pl z k r, (∀ p, i.t = .part p → D p) ∧ ∃ r, i.pl = pl ++ r ∧ r ≠ []
  | [], pl, z, k, h => fun i m => by cases m
  | s :: r, pl, z, k, h => fun i m => by
    rcases List.mem_cons.mp (show i ∈ (⟨pl ++ [Sum.inl (k : Int)], z, s⟩ : Itm) :: (prS ks fs (pl ++ [Sum.inl (k : Int)]) z s ++ prR ks fs pl z (k + 1) r) from m) with rfl | m
    · refine ⟨fun p e => ?_, _, rfl, by simp⟩
      have e' : s = .part p := e
      subst e'
      exact h.1
    · rcases List.mem_append.mp m with m | m
      · obtain ⟨a, r2, e, ne⟩ := pr_part h.1 i m
        exact ⟨a, Sum.inl (k : Int) :: r2, by rw [e, List.append_assoc]; rfl, by simp⟩
      · exact pr_partR (r := r) h.2 i m
end
/-- a question that is right -/
structure QOk (ks : List KRow) (fs : List FRow) (us : List URow) (root : Str) (rows : List St) (ps : List PRow) (F : List Str) (rk : Str → Nat) : Prop where
  po : PartOk (bsOf ks fs us) ps
  r6 : rows.length ≤ 6
  sm : smR rows
  lv : lvR rows ≤ 5
  rf : refR (fun n => n ∈ ps.map (·.nm)) rows
  rr : ∀ p ∈ ps, refR (fun n => n ∈ ps.map (·.nm) ∧ rk n < rk p.nm) p.rows
  gd : ∀ i ∈ allItems ks fs ps root rows, GoodI ks fs (bsOf ks fs us) (fun n => n ∈ ps.map (·.nm)) F i
  few : (allItems ks fs ps root rows).length ≤ 40
  f3 : F.length ≤ 3
  ht : htR (hts ps ps.length) rows ≤ 5
theorem QOk.uses {ks : List KRow} {fs : List FRow} {us : List URow} {root : Str} {rows : List St} {ps : List PRow} {F : List Str} {rk : Str → Nat} (Qk : QOk ks fs us root rows ps F rk) : ∀ x ∈ ps.map (·.nm), (usesOf (allItems ks fs ps root rows) x).length ≤ 50 ∧ ∀ y ∈ usesOf (allItems ks fs ps root rows) x, y ∈ ps.map (·.nm) ∧ rk y < rk x := by
  intro x mx
  refine ⟨Nat.le_trans (List.length_filterMap_le _ _) (Nat.le_trans Qk.few (by decide)), fun y my => ?_⟩
  obtain ⟨i, mi, ei⟩ := List.mem_filterMap.mp my
  obtain ⟨k, r0, epl⟩ : ∃ k r, i.pl = k :: r := by
    cases h : i.pl with
    | nil => exact absurd h (Qk.gd i mi).ne
    | cons k r => exact ⟨k, r, rfl⟩
  have hi : k = Sum.inr x ∧ i.t = .part y := by
    rcases useOf_cases x epl with ⟨c1, c2, c3⟩ | ⟨_, _, c3⟩ | ⟨_, c3⟩
    · rw [c3] at ei
      refine ⟨c1, ?_⟩
      cases ht : i.t with
      | part p => rw [ht] at ei; cases ei; rfl
      | field f k' r' => rw [ht] at c2; exact absurd c2 (show ¬ ("field" : Str) = "part" by decide +kernel)
      | kind k' => rw [ht] at c2; exact absurd c2 (show ¬ ("kind" : Str) = "part" by decide +kernel)
      | on z' r' => rw [ht] at c2; exact absurd c2 (show ¬ ("on" : Str) = "part" by decide +kernel)
      | iff z' b r' => rw [ht] at c2; exact absurd c2 (show ¬ ("if" : Str) = "part" by decide +kernel)
    · rw [c3] at ei; cases ei
    · rw [c3] at ei; cases ei
  obtain ⟨rfl, ht⟩ := hi
  rcases List.mem_append.mp mi with m | m
  · obtain ⟨_, r, e, ne⟩ := pr_partR Qk.rf i m
    rw [epl, List.nil_append] at e
    -- a place of the main rows begins with a number
    exact absurd (main_head m epl) (by intro h; obtain ⟨n, hn⟩ := h; cases hn)
  · obtain ⟨n, mn, m⟩ := List.mem_flatMap.mp m
    obtain ⟨p, mp, rfl⟩ := List.mem_map.mp ((srt_perm _).mem_iff.mp mn)
    rw [pItems_of Qk.po.nd mp] at m
    obtain ⟨a, r, e, _⟩ := pr_partR (Qk.rr p mp) i m
    rw [epl] at e
    have : p.nm = x := by
      have h1 := (List.cons.inj e).1
      exact (Sum.inr.inj h1).symm
    rw [← this]
    exact a y ht
where
  main_head {ks : List KRow} {fs : List FRow} {root : Str} : ∀ {rows : List St} {k0 : Nat} {i : Itm} {k : Key} {r : List Key}, i ∈ prR ks fs [] root k0 rows → i.pl = k :: r → ∃ n : Int, k = Sum.inl n
    | s :: rows, k0, i, k, r, m, e => by
      rcases List.mem_cons.mp (show i ∈ (⟨[] ++ [Sum.inl (k0 : Int)], root, s⟩ : Itm) :: (prS ks fs ([] ++ [Sum.inl (k0 : Int)]) root s ++ prR ks fs [] root (k0 + 1) rows) from m) with rfl | m
      · cases e
        exact ⟨_, rfl⟩
      · rcases List.mem_append.mp m with m | m
        · obtain ⟨_, r2, e2, _⟩ := pr_part (D := fun _ => True) (all_ref s) i m
          rw [e] at e2
          exact ⟨_, (List.cons.inj e2).1⟩
        · exact main_head (rows := rows) m e
  all_ref : ∀ t : St, refS (fun _ => True) t
    | .field f k r => all_refR r
    | .kind k => trivial
    | .on b r => all_refR r
    | .part p => trivial
    | .iff f b r => all_refR r
  all_refR : ∀ r : List St, refR (fun _ => True) r
    | [] => trivial
    | s :: r => ⟨all_ref s, all_refR r⟩
end NW
namespace NW
open PySem PySem.Spec PyProof.Rows L2
open TL (tl)
open StX (pa_star)

theorem strs_at {l : List Str} {j : Nat} {y : V} (h : (l.map V.str)[j]? = some y) : ∃ z, l[j]? = some z ∧ V.str z = y := by
  rw [List.getElem?_map] at h
  cases e : l[j]? with
  | none => rw [e] at h; cases h
  | some z => rw [e] at h; cases h; exact ⟨z, rfl, rfl⟩
section
variable {P : Program} {w : World} {K : PySem.W.Frag} {mg : Str → Option Value} {base : Heap}
def spChecked (C : Addr) : Sp := fun vs H Q _ => ∃ (x pa : Addr) (r : V) (rows : List St) (ps : List PRow) (F : List Str) (rk : Str → Nat) (ks : List KRow) (fs : List FRow) (us : List URow) (root : Str), vs = [.ref x, r, .ref pa] ∧ BuiltAt C H x ks fs us root ∧ SchOk ks fs us root ∧
  H pa = some (.dK (ptv ps)) ∧ (∀ p ∈ ps, p.At H) ∧ RowAt H r rows ∧ QOk ks fs us root rows ps F rk ∧
  ∀ p ys H', Same H H' → H p = none → H' p = some (.lst ys) → ItsAt H' ys (allItems ks fs ps root rows) → Q (.ref p) H'
theorem ok_checked {f f1 f2 f3 f4 f5 f6 f7 f8 C : Addr} {fd fd1 fd2 fd3 fd4 fd5 fd6 fd7 fd8 : FuncData} {tk : Tok} (D : Df K mg "checked_statements" s_checked_statements f fd ["schema", "rows", "parts"])
    (D_is_rows : Df K mg "is_rows" s_is_rows f1 fd1 ["rows"]) (G_is_rows : FnOk P w K mg base CX0 1 f1 fd1 ["rows"] spIsRows)
    (D_is_part_table : Df K mg "is_part_table" s_is_part_table f2 fd2 ["parts"]) (G_is_part_table : FnOk P w K mg base CX0 2 f2 fd2 ["parts"] spPartTable)
    (D_statements_below : Df K mg "statements_below" s_statements_below f3 fd3 ["schema", "parts", "before", "top"]) (G_statements_below : FnOk P w K mg base CX0 10 f3 fd3 ["schema", "parts", "before", "top"] (spBelow C))
    (D_is_part : Df K mg "is_part" s_is_part f4 fd4 ["schema", "part"]) (G_is_part : FnOk P w K mg base CX0 4 f4 fd4 ["schema", "part"] (spIsPart C))
    (D_comes_to : Df K mg "comes_to" s_comes_to f5 fd5 ["name", "uses"]) (G_comes_to : FnOk P w K mg base CX0 1 f5 fd5 ["name", "uses"] spComesTo)
    (D_uses_of_parts : Df K mg "uses_of_parts" s_uses_of_parts f6 fd6 ["parts", "found"]) (G_uses_of_parts : FnOk P w K mg base CX0 1 f6 fd6 ["parts", "found"] spUses)
    (D_height_of : Df K mg "height_of" s_height_of f7 fd7 ["rows", "heights"]) (G_height_of : FnOk P w K mg base CX0 12 f7 fd7 ["rows", "heights"] (spHeightOf 5))
    (D_heights_of_parts : Df K mg "heights_of_parts" s_heights_of_parts f8 fd8 ["parts"]) (G_heights_of_parts : FnOk P w K mg base CX0 13 f8 fd8 ["parts"] spHeightsOfParts)
    (gH : mg "MOST_HEIGHT" = some (.int 5 tk)) (T : Nms mg) (L : ClT K C) : FnOk P w K mg base CX0 14 f fd ["schema", "rows", "parts"] (spChecked C) := by
  refine D.F.ok sc_checked_statements (fun vs H Q E h => ?_) (fun cdv A outer s H vs Q E hr h => ?_)
  · obtain ⟨x, pa, r, rows, ps, F, rk, ks, fs, us, root, rfl, _⟩ := h
    rfl
  · obtain ⟨x, pa, r, rows, ps, F, rk, ks, fs, us, root, rfl, Bt, ok, hpa, hat, hrow, qk, q⟩ := h
    have hu := hu_of hr
    refine ⟨_, (pss_cons (ps_if (PW.pt (pw_or (pt_not (pt_val (pe_call G_is_rows (hr.mono (by decide)) (by rfl) D_is_rows.g D_is_rows.F.kp D_is_rows.b .nil pass0 (pa_cons (pv 1) pa_nil)))) (pw_or1 (pt_not (pt_val (pe_call G_is_part_table (hr.mono (by decide)) (by rfl) D_is_part_table.g D_is_part_table.F.kp D_is_part_table.b .nil pass0 (pa_cons (pv 2) pa_nil)))))))
       (pss_one ps_never)
       pss_nil)
      (pss_cons (ps_set (i := 3) sc_checked_statements.nd rfl (.inl rfl) (pe_call G_statements_below (hr.mono (by decide)) (by rfl) D_statements_below.g D_statements_below.F.kp D_statements_below.b .nil pass0 (pa_cons (pv 0) (pa_cons (pv 2) (pa_cons (pe_lst pa_nil) (pa_cons (pe_tup (pa_cons (pe_tup pa_nil) (pa_cons (pe_fld (pv 0) rfl) (pa_cons (pv 1) pa_nil)))) pa_nil))))))
      (pss_cons (ps_for PassesOwn.never rfl (pi_list (pe_callB (call_sortedD rfl) (by rfl) T.n_sorted (by decide +kernel) (pa_cons (pv 2) pa_nil))) (pg_name (i := 4) sc_checked_statements.nd rfl (.inl rfl))
       (pss_cons (ps_if (pt_not (pt_val (pe_call G_is_part (hr.mono (by decide)) (by rfl) D_is_part.g D_is_part.F.kp D_is_part.b .nil pass0 (pa_cons (pv 0) (pa_cons (pe_dget hu (pv 2) (pv 4) (fun _ _ => rfl)) pa_nil)))))
         (pss_one ps_never)
         pss_nil)
        (pss_cons (ps_asg (pe_dget hu (pv 2) (pv 4) (fun _ _ => rfl)) (pg_tup (by rfl) (pgs_cons (pg_name (i := 5) sc_checked_statements.nd rfl (.inl rfl)) (pgs_cons (pg_name (i := 6) sc_checked_statements.nd rfl (.inl rfl)) pgs_nil))))
        (pss_one (ps_set (i := 3) sc_checked_statements.nd rfl (.inl rfl) (pe_call G_statements_below (hr.mono (by decide)) (by rfl) D_statements_below.g D_statements_below.F.kp D_statements_below.b .nil pass0 (pa_cons (pv 0) (pa_cons (pv 2) (pa_cons (pv 3) (pa_cons (pe_tup (pa_cons (pe_tup (pa_cons (pv 4) pa_nil)) (pa_cons (pv 5) (pa_cons (pv 6) pa_nil)))) pa_nil))))))))))
      (pss_cons (ps_for PassesOwn.never rfl (pi_list (pe_callB (call_sortedD rfl) (by rfl) T.n_sorted (by decide +kernel) (pa_cons (pv 2) pa_nil))) (pg_name (i := 4) sc_checked_statements.nd rfl (.inl rfl))
       (pss_one (ps_if (pt_val (pe_call G_comes_to (hr.mono (by decide)) (by rfl) D_comes_to.g D_comes_to.F.kp D_comes_to.b .nil pass0 (pa_cons (pv 4) (pa_cons (pe_call G_uses_of_parts (hr.mono (by decide)) (by rfl) D_uses_of_parts.g D_uses_of_parts.F.kp D_uses_of_parts.b .nil pass0 (pa_cons (pv 2) (pa_cons (pv 3) pa_nil))) pa_nil))))
         (pss_one ps_never)
         pss_nil)))
      (pss_cons (ps_if (pt_cmpR op_gt (pe_call G_height_of (hr.mono (by decide)) (by rfl) D_height_of.g D_height_of.F.kp D_height_of.b .nil pass0 (pa_cons (pv 1) (pa_cons (pe_call G_heights_of_parts (hr.mono (by decide)) (by rfl) D_heights_of_parts.g D_heights_of_parts.F.kp D_heights_of_parts.b .nil pass0 (pa_cons (pv 2) pa_nil)) pa_nil))) (pe_glob (v := .int 5) (by rfl) gH ⟨_, rfl⟩) (nomark _))
       (pss_one ps_never)
       pss_nil)
      (pss_one (ps_ret (pv 3)))))))), ?_⟩
    have hS : ∀ n : Nat, n ≤ 1000 → n ≤ sizeLine := fun n h => Nat.le_trans h (by decide)
    have po := qk.po
    have n4 := po.n4
    have insx : ∀ {H'}, Same H H' → ∃ dx kt' ft' ut', H' x = some (.ins C dx (pfs kt' ft' ut' root)) := fun {H'} s => by
      obtain ⟨dx, kt', ft', ut', _, _, _, hx, _⟩ := Bt
      exact ⟨dx, kt', ft', ut', s _ _ hx⟩
    have hD : ∀ p, p ∈ ps.map (·.nm) → (valV (ptv ps) (Sum.inr p)).isSome = true := fun p m => by
      obtain ⟨p', mp, rfl⟩ := List.mem_map.mp m
      rw [ptv_val po.nd mp]
      rfl
    have few := qk.few
    unfold allItems at few
    rw [List.length_append] at few
    refine ⟨r, rfl, r, rows, rfl, hrow, ?_⟩
    rw [decide_eq_true qk.r6]
    refine ⟨true, rfl, iteF ⟨.ref pa, rfl, pa, ps, rfl, hpa, n4, po.nm, fun H1 s1 => ⟨true, rfl, iteF ?_⟩⟩⟩
    refine ⟨.ref x, rfl, .ref pa, rfl, hS 0 (by decide), fun pe npe => ⟨hS 0 (by decide), fun p0 np0 => ?_⟩⟩
    have s2 := same_new (o := .lst []) npe
    have s3 := same_new (o := .tup []) np0
    have e2 := s3 _ _ (upd_same (H := H1) (a := pe) (o := .lst []))
    have e3 : (upd (upd H1 pe (.lst [])) p0 (.tup [])) p0 = some (.tup []) := upd_same
    have s13 := s1.trans (s2.trans s3)
    generalize upd (upd H1 pe (.lst [])) p0 (.tup []) = H3 at s2 s3 e2 e3 s13
    obtain ⟨dx, kt', ft', ut', hx⟩ := insx s13
    refine ⟨.ref x, rfl, x, C, dx, _, _, rfl, hx, L.cl, L.nr, lkr .., r, rfl, hS 3 (by decide), fun tt ntt => ?_⟩
    have s4 := same_new (o := .tup [.ref p0, .str root, r]) ntt
    have e4 : (upd H3 tt (.tup [.ref p0, .str root, r])) tt = some (.tup [.ref p0, .str root, r]) := upd_same
    generalize upd H3 tt (.tup [.ref p0, .str root, r]) = H4 at s4 e4
    have s14 := s13.trans s4
    have gmain : ∀ i ∈ prR ks fs [] root 0 rows, GoodI ks fs (bsOf ks fs us) (fun n => n ∈ ps.map (·.nm)) F i := fun i m => qk.gd i (List.mem_append_left _ m)
    refine ⟨x, pa, pe, tt, p0, [], root, r, rows, ps, [], [], F, _, ks, fs, us, root, rfl, Bt.same s14, ok, s14 _ _ hpa, hD, s4 _ _ e2, ⟨rfl, fun k v e => by simp at e⟩, e4, s4 _ _ e3, by decide, hrow.same s14, qk.r6, gmain, by show 0 + _ ≤ 40; omega, (fun j m => nomatch m), qk.f3, fun pf ys H5 s5 n5 e5 i5 => ?_⟩
    rw [List.nil_append] at i5
    have s15 := s14.trans s5
    -- the parts
    refine ⟨.ref pa, rfl, pa, ptv ps, ps.map (·.nm), rfl, .inl (s15 _ _ hpa), ptv_keys ps, by rw [List.length_map]; omega, fun ns p1 pm so np1 => ?_⟩
    have v1 := srt_eq pm so
    have s6 := same_new (o := .lst (ns.map V.str)) np1
    have e6 : (upd H5 p1 (.lst (ns.map V.str))) p1 = some (.lst (ns.map V.str)) := upd_same
    have e56 := s6 _ _ e5
    have i6 := i5.tk (Same.tk s6)
    have s16 := s15.trans s6
    have n50 : H pf = none := s14.free n5
    generalize upd H5 p1 (.lst (ns.map V.str)) = H6 at s6 e6 e56 i6 s16
    have lsub : ∀ j, (prR ks fs [] root 0 rows ++ (ns.take j).flatMap (pItems ks fs ps)).length + ((ns.drop j).flatMap (pItems ks fs ps)).length ≤ 40 := fun j => by
      have : (srt (ps.map (·.nm))).flatMap (pItems ks fs ps) = (ns.take j).flatMap (pItems ks fs ps) ++ (ns.drop j).flatMap (pItems ks fs ps) := by rw [v1, ← List.flatMap_append, List.take_append_drop]
      rw [this, List.length_append] at few
      rw [List.length_append]
      omega
    have gsub : ∀ n ∈ ns, ∀ i ∈ pItems ks fs ps n, GoodI ks fs (bsOf ks fs us) (fun n => n ∈ ps.map (·.nm)) F i := fun n m i mi => qk.gd i (List.mem_append_right _ (List.mem_flatMap.mpr ⟨n, by rw [v1]; exact m, mi⟩))
    refine ⟨p1, rfl, ⟨_, SqL.of e6⟩, for_list (xs := ns.map V.str) (fun j σ H' => ∃ (pf : Addr) (ys : List V) (y4 y5 y6 : Option V), σ = [some (.ref x), some r, some (.ref pa), some (.ref pf), y4, y5, y6] ∧ Same H H' ∧ H' p1 = some (.lst (ns.map V.str)) ∧ H pf = none ∧ H' pf = some (.lst ys) ∧ ItsAt H' ys (prR ks fs [] root 0 rows ++ (ns.take j).flatMap (pItems ks fs ps))) ?_ ?_ ?_ ?_⟩
    · exact ⟨pf, ys, _, _, _, rfl, s16, e6, n50, e56, by rw [List.take_zero]; show ItsAt _ _ (_ ++ []); rw [List.append_nil]; exact i6⟩
    · rintro j σ H7 _ ⟨_, _, _, _, _, _, _, h, _⟩
      exact SqL.of h
    · rintro j y σ H7 ey ⟨pf, ys, y4, y5, y6, rfl, s7, e7, n7, ef, hi⟩
      obtain ⟨n, en, rfl⟩ := strs_at ey
      have mn := List.mem_of_getElem? en
      obtain ⟨p, mp, rfl⟩ := List.mem_map.mp (pm.mem_iff.mp mn)
      have hp := (hat p mp).same s7
      obtain ⟨zb, zl⟩ := po.zb p mp
      obtain ⟨r6, _, _⟩ := po.r6 p mp
      have hv := (ptv_val po.nd mp).symm
      refine ⟨.ref x, rfl, .ref pa, rfl, .str p.nm, rfl, pa, .ref p.t, rfl, .inl ⟨ptv ps, .inr p.nm, .inl (s7 _ _ hpa), rfl, hv⟩, x, p, ks, fs, us, root, rfl, Bt.same s7, ok, hp, zb, zl, r6, fun H8 s8 => ⟨true, rfl, iteF ?_⟩⟩
      have s78 := s7.trans s8
      have hp8 := hp.same s8
      refine ⟨.ref pa, rfl, .str p.nm, rfl, pa, .ref p.t, rfl, .inl ⟨ptv ps, .inr p.nm, .inl (s78 _ _ hpa), rfl, hv⟩, p.t, _, rfl, .inl (.inl hp8.1), rfl, _, _, rfl, _, _, rfl, rfl, ?_⟩
      refine ⟨.ref x, rfl, .ref pa, rfl, .ref pf, rfl, .str p.nm, rfl, hS 1 (by decide), fun pn npn => ?_⟩
      have s9 := same_new (o := .tup [.str p.nm]) npn
      have e9 : (upd H8 pn (.tup [.str p.nm])) pn = some (.tup [.str p.nm]) := upd_same
      generalize upd H8 pn (.tup [.str p.nm]) = H9 at s9 e9
      refine ⟨.str p.z, rfl, p.r, rfl, hS 3 (by decide), fun tt ntt => ?_⟩
      have s10 := same_new (o := .tup [.ref pn, .str p.z, p.r]) ntt
      have e10 : (upd H9 tt (.tup [.ref pn, .str p.z, p.r])) tt = some (.tup [.ref pn, .str p.z, p.r]) := upd_same
      generalize upd H9 tt (.tup [.ref pn, .str p.z, p.r]) = H10 at s10 e10
      have s810 := s9.trans s10
      have s7A := s78.trans s810
      have epI := pItems_of (ks := ks) (fs := fs) po.nd mp
      have gI := gsub p.nm mn
      rw [epI] at gI
      have lj := lsub (j + 1)
      have etk : (ns.take (j + 1)).flatMap (pItems ks fs ps) = (ns.take j).flatMap (pItems ks fs ps) ++ prR ks fs [Sum.inr p.nm] p.z 0 p.rows := by
        rw [takeS en, List.flatMap_append, ← epI]
        simp
      rw [etk, ← List.append_assoc, List.length_append] at lj
      refine ⟨x, pa, pf, tt, pn, [Sum.inr p.nm], p.z, p.r, p.rows, ps, ys, _, F, _, ks, fs, us, root, rfl, Bt.same s7A, ok, s7A _ _ hpa, hD, (s8.trans s810) _ _ ef, hi.tk (Same.tk (s8.trans s810)), e10, s10 _ _ e9, by show 1 ≤ 10; decide, hp8.2.same s810, r6, gI, by omega, fun i mi f ef => ?_, qk.f3, fun pf2 ys2 H11 s11 n11 e11 i11 => ?_⟩
      · rcases List.mem_append.mp mi with mi | mi
        · exact (gmain i mi).fl f ef
        · obtain ⟨n', mn', mi⟩ := List.mem_flatMap.mp mi
          exact (gsub n' (List.mem_of_mem_take mn') i mi).fl f ef
      · refine ⟨pf2, ys2, _, _, _, rfl, s7A.trans s11, ((s8.trans s810).trans s11) _ _ e7, s7A.free n11, e11, ?_⟩
        rw [etk, ← List.append_assoc]
        exact i11
    rintro σ H7 ⟨pf, ys, y4, y5, y6, rfl, s7, e7, n7, ef, hi⟩
    rw [List.length_map, List.take_length, ← v1] at hi
    have hi' : ItsAt H7 ys (allItems ks fs ps root rows) := hi
    clear hi e7
    -- no part comes to itself
    refine ⟨.ref pa, rfl, pa, ptv ps, ps.map (·.nm), rfl, .inl (s7 _ _ hpa), ptv_keys ps, by rw [List.length_map]; omega, fun ns2 p2 pm2 so2 np2 => ?_⟩
    have s8 := same_new (o := .lst (ns2.map V.str)) np2
    have e8 : (upd H7 p2 (.lst (ns2.map V.str))) p2 = some (.lst (ns2.map V.str)) := upd_same
    have ef8 := s8 _ _ ef
    have hi8 := hi'.tk (Same.tk s8)
    have s78 := s7.trans s8
    generalize upd H7 p2 (.lst (ns2.map V.str)) = H8 at s8 e8 ef8 hi8 s78
    refine ⟨p2, rfl, ⟨_, SqL.of e8⟩, for_list (xs := ns2.map V.str) (fun j σ H' => ∃ (y4 : Option V), σ = [some (.ref x), some r, some (.ref pa), some (.ref pf), y4, y5, y6] ∧ Same H8 H') ?_ ?_ ?_ ?_⟩
    · exact ⟨_, rfl, Same.refl _⟩
    · rintro j σ H9 _ ⟨_, _, h⟩
      exact SqL.of (h _ _ e8)
    · rintro j y σ H9 ey ⟨y4, rfl, s9⟩
      obtain ⟨n, en, rfl⟩ := strs_at ey
      have mn := pm2.mem_iff.mp (List.mem_of_getElem? en)
      have s79 := s78.trans s9
      refine ⟨.str n, rfl, .ref pa, rfl, .ref pf, rfl, pa, pf, ps, ys, _, rfl, s79 _ _ hpa, po.nd, n4, s9 _ _ ef8, hi8.tk (Same.tk s9), Nat.le_trans qk.few (by decide), fun i m => (qk.gd i m).ne, fun d H10 s10 n10 ud => ?_⟩
      exact ⟨d, n, ps.map (·.nm), usesOf (allItems ks fs ps root rows), rk, rfl, ud, po.nd, by rw [List.length_map]; exact n4, mn, qk.uses, fun H11 s11 => ⟨false, rfl, iteF ⟨_, rfl, s9.trans (s10.trans s11)⟩⟩⟩
    rintro σ H9 ⟨y4, rfl, s9⟩
    have s79 := s78.trans s9
    -- the height
    refine ⟨r, rfl, .ref pa, rfl, pa, ps, bsOf ks fs us, rfl, s79 _ _ hpa, fun p m => (hat p m).same s79, po, fun d H10 s10 n10 e10 => ?_⟩
    refine ⟨r, rows, d, htv ps (hts ps ps.length), (fun n => n ∈ ps.map (·.nm)), hts ps ps.length, rfl, hrow.same (s79.trans s10), qk.r6, qk.sm, qk.lv, qk.rf, e10, fun n m => ?_, fun H11 s11 => ⟨_, _, rfl, rfl, false, blF (by have := qk.ht; omega), iteF ⟨.ref pf, rfl, q pf ys H11 ((s79.trans s10).trans s11) n7 ((s9.trans (s10.trans s11)) _ _ ef8) (hi8.tk (Same.tk (s9.trans (s10.trans s11))))⟩⟩⟩
    obtain ⟨p, mp, rfl⟩ := List.mem_map.mp m
    exact htv_val po.nd mp
end
end NW
namespace NW
open PySem PySem.Spec PyProof.Rows L2
/-! ### {k: v for ..} whose keys are tuples -/
section
variable {X : Cx} {pins : List (Addr × Obj)} {σ : L2.St} {H : Hp} {s : Shared} {E : Value → Shared → Prop}
theorem d_putT {D b : Addr} {y : V} {r : Value} {kvs : List (List Key × V)} {k : List Key} {Q : Unit → Shared → Prop} (hu : X.A.units + 1 < cLine) (I : Inv X pins σ H s) (eD : H D = some (.dT kvs)) (eb : H b = some (.tup (k.map kV))) (l : kvs.length < sizeLine) (rv : RelV y r) (go : ∀ s', Inv X pins σ (upd H D (.dT (putK kvs k y))) s' → Q () s') :
    wpAny (model X.prog X.w) X.A (dictSet D (.ref b) r) Q E s := by
  obtain ⟨fit, own, xs, rel, at_⟩ := dt_of I.hok eD
  have small : xs.length ≤ sizeLine := (Paired.length rel) ▸ fit
  have grown : (putK kvs k y).length ≤ sizeLine := Nat.le_trans (length_putK kvs k y) l
  refine wpAny_dictSet_heap (hsz := small) (Nat.lt_of_succ_lt hu) (key_of I.hok eb) at_ fun g new but => go _ ?_
  obtain ⟨o, es, ep, ho, a1, a2, a3, _, a5⟩ := new
  refine d_write I (by rw [eD]; exact True.intro) but ⟨o, ho⟩ ⟨grown, own, _, (rel.put k eb rv).keeps fun c ys ec => ?_, o, es, ep, ho, a1, a2, a3, a5⟩
  rw [upd_ne (ne_of ec eD fun z => nomatch z)]
  exact ec
def tDcT (wi : TI) (g : TG) (tt : TT) (tk tv : TE) (vs : List Nat) : TE := fun σ H Q => wi σ H fun J H1 => ∀ D, H1 D = none → ∃ W : Nat → Nat → Hp → Prop, (∃ m, W 0 m (upd H1 D (.dT []))) ∧ ∀ i m H, W i m H →
  (J.stop i H ∧ Q (.ref D) H) ∨ (J.go i H ∧ ∃ Nx : Hp → Prop, (∀ H', Nx H' → ∃ m', m' < m ∧ W (i + 1) m' H') ∧ ∀ x H', J.yld i H x H' → g x (wipe σ vs) H' fun σ2 H2 => wipe σ2 vs = wipe σ vs ∧ tt σ2 H2 fun b H3 =>
    if b = true then tk σ2 H3 fun y H4 => tv σ2 H4 fun z H5 => ∃ (kvs : List (List Key × V)) (k : List Key) (b : Addr), y = .ref b ∧ H5 D = some (.dT kvs) ∧ H5 b = some (.tup (k.map kV)) ∧ kvs.length < sizeLine ∧ Nx (upd H5 D (.dT (putK kvs k z))) else Nx H3)
theorem pe_dcT {ke ve tge ite : Expr} {tests : List Expr} {scp : Scope} {mine : List (Str × Nat)} {ps : Pos} {wi : TI} {g : TG} {tt : TT} {tk tv : TE} (calm : X.calm = true) (hu : X.A.units + 1 < cLine) (nod : X.N.Nodup) (src : PI X tge ite wi) (blk : BlkOk X.N X.env.scope scp mine)
    (pg : ∀ (s : Shared) (H : Hp) (C : Addr) (cl : List (Str × Addr)) (fp : List Addr), PG (X.blk s H scp (compEnvC scp cl C X.env) fp) tge g) (pt : ∀ (s : Shared) (H : Hp) (C : Addr) (cl : List (Str × Addr)) (fp : List Addr), PTs (X.blk s H scp (compEnvC scp cl C X.env) fp) tests tt)
    (pk : ∀ (s : Shared) (H : Hp) (C : Addr) (cl : List (Str × Addr)) (fp : List Addr), PE (X.blk s H scp (compEnvC scp cl C X.env) fp) ke tk) (pv : ∀ (s : Shared) (H : Hp) (C : Addr) (cl : List (Str × Addr)) (fp : List Addr), PE (X.blk s H scp (compEnvC scp cl C X.env) fp) ve tv)
    (plain : ∀ x, foldedSetIterable ite X.env x = pure x := by intro _; rfl) : PE X (.DictComp ke ve [⟨tge, ite, tests, 0⟩] scp ps) (tDcT wi g tt tk tv (mine.map (·.2))) := by
  refine ⟨fun pins s σ H Q I w => ?_⟩
  rw [arm_eval_DictComp]
  have caught : ∀ y ∈ scp.names, y.2 = .free → ∃ c, X.env.cells.lookup y.1 = some c := fun y m e => I.ok.has _ (blk.free y m e)
  refine wpAny_comprehension_free rfl plain (closure_ok caught) blk.kind (fun y m e => by rw [blk.uniq y m, e]) (thn (src.run pins s σ H _ I w) fun u0 t1 more => thn more fun u1 t2 got => ?_)
  obtain ⟨it, fp, tn, J, G2, rfl, K2, Tr, at0, ok2, q⟩ := got
  refine wpAny_newObj_type (newEnv_comp ?_)
  -- the new dict
  have K3 : Inv X pins σ (upd G2 t2.heap.objs.size (.dT [])) { t2 with heap := t2.heap.push { cls := .type "dict", data := .dict #[] } } :=
    K2.laid (t' := t2.toks) (fun b o e => Heap.get?_push_of_some _ e) (Nat.le_refl _) (dt_empty t2.heap K2.big)
  obtain ⟨W, ⟨m0, w0⟩, turn⟩ := q t2.heap.objs.size (K2.hok.fresh (Nat.le_refl _))
  generalize dD : t2.heap.objs.size = D at K3 w0 turn ⊢
  have below : ∀ b ∈ fp, b < t2.heap.objs.size := fun b m => by
    obtain ⟨o, e, _⟩ := Tr.obj _ _ at0 b m
    exact Heap.lt_size e
  generalize dt3 : ({ t2 with heap := t2.heap.push { cls := .type "dict", data := .dict #[] } } : Shared) = t3 at K3
  have hp3 : t3.heap = t2.heap.push { cls := .type "dict", data := .dict #[] } := by rw [← dt3]
  have ok3 : ∀ b ∈ fp, FpOk X pins (upd G2 D (.dT [])) b ∧ b < t3.heap.objs.size := fun b m => by
    have lt2 := below b m
    refine ⟨⟨?_, (ok2 b m).2⟩, by rw [hp3, Heap.size_push]; exact Nat.lt_succ_of_lt lt2⟩
    rw [upd_ne (dD ▸ Nat.ne_of_lt lt2)]
    exact (ok2 b m).1
  have at3 : tn 0 t3.heap := Tr.keep _ _ _ at0 fun b _ o e => by rw [hp3]; exact Heap.get?_push_of_some _ e
  have K4 := block_start K3 blk nod ok3
  generalize dG3 : upd G2 D (.dT []) = G3 at K3 K4 w0 ok3
  have rg := pg t3 G3 t3.heap.objs.size (cellsFrom (t3.heap.objs.size + 1) scp.names (cloFrom X.env.cells scp.names [])) fp
  have rt := pt t3 G3 t3.heap.objs.size (cellsFrom (t3.heap.objs.size + 1) scp.names (cloFrom X.env.cells scp.names [])) fp
  have rk := pk t3 G3 t3.heap.objs.size (cellsFrom (t3.heap.objs.size + 1) scp.names (cloFrom X.env.cells scp.names [])) fp
  have rv := pv t3 G3 t3.heap.objs.size (cellsFrom (t3.heap.objs.size + 1) scp.names (cloFrom X.env.cells scp.names [])) fp
  have envL : (compEnvC scp (cellsFrom (t3.heap.objs.size + 1) scp.names (cloFrom X.env.cells scp.names [])) t3.heap.objs.size X.env).locals = t3.heap.objs.size := rfl
  show codeAny _ _ (.compStart (.DictComp ke ve [⟨tge, ite, tests, 0⟩] scp ps) 0 (.ref it) (.ref D) (compEnvC scp (cellsFrom (t3.heap.objs.size + 1) scp.names (cloFrom X.env.cells scp.names [])) t3.heap.objs.size X.env)) (compPost (model X.prog X.w) X.A X.xe none (EP X pins σ Q) (.ref D) t3.heap.objs.size) { t3 with heap := pushCells (t3.heap.push { cls := .type "dict", data := .dict #[] }) scp.names }
  generalize dce : compEnvC scp (cellsFrom (t3.heap.objs.size + 1) scp.names (cloFrom X.env.cells scp.names [])) t3.heap.objs.size X.env = ce at K4 rg rt rk rv envL ⊢
  have void : ∀ b ∈ fp, G3 b = none := fun b m => (ok3 b m).1.1
  generalize dt4 : ({ t3 with heap := pushCells (t3.heap.push { cls := .type "dict", data := .dict #[] }) scp.names } : Shared) = t4 at K4
  have at4 : tn 0 t4.heap := Tr.keep _ _ _ at3 fun b _ o e => by rw [← dt4]; exact pushCells_keeps _ _ _ _ (Heap.get?_push_of_some _ e)
  have fpk : ∀ {τ : L2.St} {G : Hp} {t : Shared}, Inv (X.blk t3 G3 scp ce fp) [] τ G t → (∀ b ∈ fp, G b = none) → ∀ b ∈ fp, FpOk (X.blk t3 G3 scp ce fp) [] G b := fun {τ G t} K n b m =>
    ⟨n b m, (K.ok.exf b m).1, K.ok.exfs b m, .inl m, fun x c e => (K.ok.exf b m).2 x c e, fun p hp => absurd (show p ∈ ([] : List (Addr × Obj)) ++ [] from hp) (by simp)⟩
  have inner : codeAny (model X.prog X.w) X.A (.compLoop (.DictComp ke ve [⟨tge, ite, tests, 0⟩] scp ps) 0 (.ref it) (.ref D) ce) (compPost (model X.prog X.w) X.A X.xe none (EP X pins σ Q) (.ref D) t3.heap.objs.size) t4 := by
    refine compLoop_anyD (fun n t => ∃ i G, Inv (X.blk t3 G3 scp ce fp) [] (wipe σ (mine.map (·.2))) G t ∧ tn i t.heap ∧ (∀ b ∈ fp, G b = none) ∧ W i n G) ?_ m0 ⟨0, G3, K4, at4, void, w0⟩
    rintro n t5 ⟨i, G5, K5, at5, n5, w5⟩
    rcases turn i n G5 w5 with ⟨stop, fin⟩ | ⟨go, Nx, back, step⟩
    · refine thnF (Tr.done (X.blk t3 G3 scp ce fp) rfl rfl rfl calm i [] t5 _ G5 (fun _ _ => False) K5 (fpk K5 n5) at5 stop) fun r t6 ⟨hr, K6⟩ => ?_
      subst hr
      have K7 : Inv X pins σ G5 t6 := K3.call' (ch := fp) K6.os K6.base K6.hok K6.bare fun b m => ⟨(ok3 b m).1.2.2.2.1, (ok3 b m).1.2.1, (ok3 b m).1.2.2.2.2.1, (ok3 b m).1.2.2.2.2.2⟩
      have gone : G5 t3.heap.objs.size = none := by
        have z : G5 ce.locals = none := K6.free
        rw [envL] at z
        exact z
      obtain ⟨m, names, _⟩ := K6.loc
      have names : t6.heap.Ns ce.locals m := names
      rw [envL] at names
      obtain ⟨f0, f1, f2, f3, f4, f5⟩ := K3.fpOk (Nat.le_refl _) gone
      exact ⟨m, names, fun h2 but => ⟨.ref D, G5, K7.turned (t' := t6.toks) (fun b o hb e => (but.2 b hb).trans e) f0 f1 f3 f4 f5, rfl, fin⟩⟩
    · refine thnF (Tr.item (X.blk t3 G3 scp ce fp) rfl rfl rfl calm i [] t5 _ G5 (fun _ _ => False) K5 (fpk K5 n5) at5 go) fun r t6 ⟨u, hr, more⟩ => ?_
      subst hr
      refine thnF more fun _ t7 ⟨x, G7, K7, r7, y7, at7, n7⟩ => ?_
      refine thnF (rg.run _ t7 _ G7 x u _ (K7.pinned (fpk K7 n7) (Tr.obj _ _ at7)) r7 (step x G7 y7)) fun _ t8 ⟨τ, G8, K8, back8, q8⟩ => ?_
      refine thnF (rt.run _ t8 τ G8 _ K8 q8) fun b t9 ⟨G9, K9, q9⟩ => ?_
      have over : ∀ {t : Shared} {G : Hp}, Inv (X.blk t3 G3 scp ce fp) ([] ++ pinsAt fp t7.heap) τ G t → Nx G → ∃ m, m < n ∧ ∃ i G, Inv (X.blk t3 G3 scp ce fp) [] (wipe σ (mine.map (·.2))) G t ∧ tn i t.heap ∧ (∀ b ∈ fp, G b = none) ∧ W i m G := fun {t G} K nx => by
        obtain ⟨m, lt, wn⟩ := back G nx
        have stay : ∀ b ∈ fp, ∀ o, t7.heap.get? b = some o → t.heap.get? b = some o ∧ G b = none := fun b hb o e =>
          let z := K.pin (b, o) (List.mem_append_right _ (List.mem_append_right _ (mem_pinsAt hb e)))
          ⟨z.1, z.2.1⟩
        refine ⟨m, lt, i + 1, G, (K.unpinned (pins := [])).weak (by rw [← back8, wipe_length]) (fun j v e => ?_), Tr.keep _ _ _ at7 fun b hb o e => (stay b hb o e).1, fun b hb => ?_, wn⟩
        · rw [← back8] at e
          exact (wipe_some e).1
        · obtain ⟨o, e, _⟩ := Tr.obj _ _ at7 b hb
          exact (stay b hb o e).2
      cases b with
      | false =>
        simp only [Bool.false_eq_true, if_false] at q9 ⊢
        exact over K9 q9
      | true =>
        simp only [if_true] at q9 ⊢
        refine thnF (rk.run _ t9 τ G9 _ K9 q9) fun z1 tA ⟨yk, GA, KA, rA, qA⟩ => thnF (rv.run _ tA τ GA _ KA qA) fun z2 tB ⟨yv, GB, KB, rB, kvs, k, b, ek, eD, eb, fits, nx⟩ => ?_
        subst ek
        cases (show z1 = Value.ref b from rA)
        exact d_putT (X := X.blk t3 G3 scp ce fp) hu KB eD eb fits rB fun tC KC => over KC nx
  exact codeAny_compStart_dict inner (Tr.self X.A 0 _ _ _ at4 inner)
end
end NW
namespace NW
open PySem PySem.Spec PyProof.Rows L2
theorem dcT_it {J : It} {n : Nat} {G : Hp → Prop} {Y : Nat → Hp → V → Hp → Prop} (w : Walk J n G Y) {g : TG} {tt : TT} {tk tv : TE} {vs : List Nat} {σ : L2.St} {H1 : Hp} {Da : Addr} {Qd : Hp → Prop} (Pv : Nat → Hp → Prop)
    (start : Pv 0 (upd H1 Da (.dT []))) (hG : ∀ i H, i ≤ n → Pv i H → G H)
    (turn : ∀ i x H H', i < n → Pv i H → Y i H x H' → g x (wipe σ vs) H' fun σ2 H2 => wipe σ2 vs = wipe σ vs ∧ tt σ2 H2 fun b H3 =>
      if b = true then tk σ2 H3 fun y H4 => tv σ2 H4 fun z H5 => ∃ (kvs : List (List Key × V)) (k : List Key) (b : Addr), y = .ref b ∧ H5 Da = some (.dT kvs) ∧ H5 b = some (.tup (k.map kV)) ∧ kvs.length < sizeLine ∧ Pv (i + 1) (upd H5 Da (.dT (putK kvs k z))) else Pv (i + 1) H3) (fin : ∀ H, Pv n H → Qd H) :
    ∃ W : Nat → Nat → Hp → Prop, (∃ m, W 0 m (upd H1 Da (.dT []))) ∧ ∀ i m H, W i m H →
      (J.stop i H ∧ Qd H) ∨ (J.go i H ∧ ∃ Nx : Hp → Prop, (∀ H', Nx H' → ∃ m', m' < m ∧ W (i + 1) m' H') ∧ ∀ x H', J.yld i H x H' → g x (wipe σ vs) H' fun σ2 H2 => wipe σ2 vs = wipe σ vs ∧ tt σ2 H2 fun b H3 =>
        if b = true then tk σ2 H3 fun y H4 => tv σ2 H4 fun z H5 => ∃ (kvs : List (List Key × V)) (k : List Key) (b : Addr), y = .ref b ∧ H5 Da = some (.dT kvs) ∧ H5 b = some (.tup (k.map kV)) ∧ kvs.length < sizeLine ∧ Nx (upd H5 Da (.dT (putK kvs k z))) else Nx H3) := by
  refine ⟨fun i m H => i + m = n ∧ Pv i H, ⟨n, Nat.zero_add n, start⟩, fun i m H h => ?_⟩
  obtain ⟨e, p⟩ := h
  have q := hG i H (by omega) p
  cases m with
  | zero =>
    have e2 : i = n := by omega
    subst e2
    exact .inl ⟨w.stops H q, fin H p⟩
  | succ m => exact .inr ⟨w.goes i H (by omega) q, Pv (i + 1), fun H' p' => ⟨m, Nat.lt_succ_self m, by omega, p'⟩, fun x H' y => turn i x H H' (by omega) p (w.yields i H x H' (by omega) q y)⟩
/-! ### places are different -/
mutual
theorem prS_pl {ks : List KRow} {fs : List FRow} : ∀ {t : St} {pl : List Key} {z : Str} {i : Itm}, i ∈ prS ks fs pl z t → ∃ (j : Nat) (r : List Key), i.pl = pl ++ Sum.inl (j : Int) :: r
  | .field f k r, pl, z, i, m => by
    obtain ⟨j, _, r, e⟩ := prR_pl (rows := r) m
    exact ⟨j, r, e⟩
  | .kind k, pl, z, i, m => by cases m
  | .on b r, pl, z, i, m => by
    obtain ⟨j, _, r, e⟩ := prR_pl (rows := r) m
    exact ⟨j, r, e⟩
  | .part p, pl, z, i, m => by cases m
  | .iff f b r, pl, z, i, m => by
    obtain ⟨j, _, r, e⟩ := prR_pl (rows := r) m
    exact ⟨j, r, e⟩
theorem prR_pl {ks : List KRow} {fs : List FRow} : ∀ {rows : List St} {pl : List Key} {z : Str} {k : Nat} {i : Itm}, i ∈ prR ks fs pl z k rows → ∃ j : Nat, k ≤ j ∧ ∃ r : List Key, i.pl = pl ++ Sum.inl (j : Int) :: r
  | s :: r, pl, z, k, i, m => by
    rcases List.mem_cons.mp (show i ∈ (⟨pl ++ [Sum.inl (k : Int)], z, s⟩ : Itm) :: (prS ks fs (pl ++ [Sum.inl (k : Int)]) z s ++ prR ks fs pl z (k + 1) r) from m) with rfl | m
    · exact ⟨k, Nat.le_refl _, [], rfl⟩
    · rcases List.mem_append.mp m with m | m
      · obtain ⟨j, r, e⟩ := prS_pl m
        exact ⟨k, Nat.le_refl _, Sum.inl (j : Int) :: r, by rw [e, List.append_assoc]; rfl⟩
      · obtain ⟨j, hj, r, e⟩ := prR_pl (rows := r) m
        exact ⟨j, by omega, r, e⟩
end
theorem app_inj {α : Type} {p a b : List α} (h : p ++ a = p ++ b) : a = b := List.append_cancel_left h
mutual
theorem prS_nd {ks : List KRow} {fs : List FRow} : ∀ {t : St} {pl : List Key} {z : Str}, ((prS ks fs pl z t).map (·.pl)).Nodup
  | .field f k r, pl, z => prR_nd (rows := r)
  | .kind k, pl, z => List.nodup_nil
  | .on b r, pl, z => prR_nd (rows := r)
  | .part p, pl, z => List.nodup_nil
  | .iff f b r, pl, z => prR_nd (rows := r)
theorem prR_nd {ks : List KRow} {fs : List FRow} : ∀ {rows : List St} {pl : List Key} {z : Str} {k : Nat}, ((prR ks fs pl z k rows).map (·.pl)).Nodup
  | [], pl, z, k => List.nodup_nil
  | s :: r, pl, z, k => by
    show ((pl ++ [Sum.inl (k : Int)]) :: (prS ks fs (pl ++ [Sum.inl (k : Int)]) z s ++ prR ks fs pl z (k + 1) r).map (·.pl)).Nodup
    rw [List.map_append]
    refine List.nodup_cons.mpr ⟨fun m => ?_, List.nodup_append.mpr ⟨prS_nd, prR_nd (rows := r), fun a ma b mb e => ?_⟩⟩
    · rcases List.mem_append.mp m with m | m
      · obtain ⟨i, mi, e⟩ := List.mem_map.mp m
        obtain ⟨j, r2, e2⟩ := prS_pl mi
        rw [e] at e2
        have := congrArg List.length e2
        rw [List.length_append (as := pl ++ [_])] at this
        simp at this
      · obtain ⟨i, mi, e⟩ := List.mem_map.mp m
        obtain ⟨j, hj, r2, e2⟩ := prR_pl (rows := r) mi
        rw [e] at e2
        have := (List.cons.inj (app_inj e2)).1
        have := Sum.inl.inj this
        omega
    · obtain ⟨i, mi, e1⟩ := List.mem_map.mp ma
      obtain ⟨i2, mi2, e2⟩ := List.mem_map.mp mb
      obtain ⟨j, r2, h1⟩ := prS_pl mi
      obtain ⟨j2, hj, r3, h2⟩ := prR_pl (rows := r) mi2
      rw [e1, e, ← e2, h2, List.append_assoc] at h1
      have := (List.cons.inj (app_inj h1)).1
      have := Sum.inl.inj this
      omega
end
theorem srt_nd {l : List Str} (h : l.Nodup) : (srt l).Nodup := (srt_perm l).nodup_iff.mpr h
theorem all_nd {ks : List KRow} {fs : List FRow} {ps : List PRow} {root : Str} {rows : List St} (nd : (ps.map (·.nm)).Nodup) : ((allItems ks fs ps root rows).map (·.pl)).Nodup := by
  unfold allItems
  rw [List.map_append]
  have hp : ∀ n ∈ srt (ps.map (·.nm)), ∀ i ∈ pItems ks fs ps n, ∃ (j : Nat) (r : List Key), i.pl = Sum.inr n :: Sum.inl (j : Int) :: r := fun n mn i mi => by
    obtain ⟨p, mp, rfl⟩ := List.mem_map.mp ((srt_perm _).mem_iff.mp mn)
    rw [pItems_of nd mp] at mi
    obtain ⟨j, _, r, e⟩ := prR_pl mi
    exact ⟨j, r, e⟩
  refine List.nodup_append.mpr ⟨prR_nd, ?_, fun a ma b mb e => ?_⟩
  · have hs := srt_nd nd
    generalize srt (ps.map (·.nm)) = ns at hs hp
    have hin : ∀ n ∈ ns, ((pItems ks fs ps n).map (·.pl)).Nodup := fun n _ => by
      unfold pItems
      split
      · exact prR_nd
      · exact List.nodup_nil
    induction ns with
    | nil => exact List.nodup_nil
    | cons n r ih =>
      have hs' := List.nodup_cons.mp hs
      show ((pItems ks fs ps n ++ r.flatMap (pItems ks fs ps)).map (·.pl)).Nodup
      rw [List.map_append]
      refine List.nodup_append.mpr ⟨hin n List.mem_cons_self, ih hs'.2 (fun m mm => hp m (List.mem_cons_of_mem _ mm)) (fun m mm => hin m (List.mem_cons_of_mem _ mm)), fun a ma b mb e => ?_⟩
      obtain ⟨i, mi, e1⟩ := List.mem_map.mp ma
      obtain ⟨i2, mi2, e2⟩ := List.mem_map.mp mb
      obtain ⟨m, mm, mi2⟩ := List.mem_flatMap.mp mi2
      obtain ⟨j, r1, h1⟩ := hp n List.mem_cons_self i mi
      obtain ⟨j2, r2, h2⟩ := hp m (List.mem_cons_of_mem _ mm) i2 mi2
      rw [e1, e, ← e2, h2] at h1
      have := Sum.inr.inj (List.cons.inj h1).1
      exact hs'.1 (this ▸ mm)
  · obtain ⟨i, mi, e1⟩ := List.mem_map.mp ma
    obtain ⟨i2, mi2, e2⟩ := List.mem_map.mp mb
    obtain ⟨m, mm, mi2⟩ := List.mem_flatMap.mp mi2
    obtain ⟨j, _, r1, h1⟩ := prR_pl mi
    obtain ⟨j2, r2, h2⟩ := hp m mm i2 mi2
    rw [e1, e, ← e2, h2] at h1
    cases (List.cons.inj h1).1
end NW
namespace NW
open PySem PySem.Spec PyProof.Rows L2
open TL (tl)
open StX (pa_star)
abbrev s_Ltarget : Stmt := topS 79
abbrev N_Ltarget : List Str := ["_law_shape_here", "_law_k"]
theorem sc_Ltarget : FnScope N_Ltarget ["_law_shape_here"] (defScope s_Ltarget) := ⟨rfl, rfl, rfl, by decide +kernel, rfl, by decide +kernel, by decide +kernel⟩
abbrev s_Ltable : Stmt := topS 78
abbrev N_Ltable : List Str := ["_law_schema_here", "_law_base"]
theorem sc_Ltable : FnScope N_Ltable ["_law_schema_here", "_law_base"] (defScope s_Ltable) := ⟨rfl, rfl, rfl, by decide +kernel, rfl, by decide +kernel, by decide +kernel⟩section
variable {P : Program} {w : World} {K : PySem.W.Frag} {mg : Str → Option Value} {base : Heap}

def spLtarget : Sp := fun vs H Q _ => ∃ (v : V) (s : Shp), vs = [v] ∧ ShAt H v s ∧ s.dep ≤ 4 ∧ Q (.str s.tgt) H
theorem ok_Ltarget {f : Addr} {fd : FuncData} (D : Df K mg "_law_target" s_Ltarget f fd ["_law_shape_here"]) (T : Nms mg) : FnOk P w K mg base CX0 1 f fd ["_law_shape_here"] spLtarget := by
  refine D.F.ok sc_Ltarget (fun vs H Q E h => ?_) (fun cdv A outer s H vs Q E hr h => ?_)
  · obtain ⟨v, s, rfl, _⟩ := h
    rfl
  · obtain ⟨v, s, rfl, hv, hd, q⟩ := h
    refine ⟨_, (pss_cons (ps_for PassesOwn.never rfl (pi_range1 (by rfl) T.n_range (pa_cons pe_int pa_nil)) (pg_name (i := 1) sc_Ltarget.nd rfl (.inl rfl))
       (pss_one (ps_if (pt_not (pt_val (pe_callB call_isi (by rfl) T.n_isinstance (by decide +kernel) (pa_cons (pv 0) (pa_cons (pe_bltn (v := .ty "str") (by rfl) T.n_str (by decide +kernel) rfl) pa_nil)))))
         (pss_one (ps_set (i := 0) sc_Ltarget.nd rfl (.inl rfl) (pe_ix ix_tup (pv 0) pe_int (fun _ _ => rfl))))
         pss_nil)))
      (pss_one (ps_ret (pv 0)))), ?_⟩
    refine ⟨4, rfl, by decide, by decide, for_range (lo := 0) (n := 4) (fun i σ H' => ∃ (v' : V) (s' : Shp) (y : Option V), σ = [some v', y] ∧ H' = H ∧ ShAt H v' s' ∧ s'.tgt = s.tgt ∧ s'.dep + i ≤ 4) ⟨v, s, none, rfl, rfl, hv, rfl, hd⟩ ?_ ?_⟩
    · rintro i σ H' hi ⟨v', s', y, rfl, rfl, hv', ht, hd'⟩
      cases s' with
      | base z =>
        obtain rfl : v' = .str z := hv'
        exact ⟨.str z, rfl, _, _, _, _, true, rfl, .ty "str", .base (.str z), kit_ty (by decide +kernel), true, rfl, iteF ⟨.str z, .base z, _, rfl, rfl, rfl, ht, by show 0 + (i + 1) ≤ 4; omega⟩⟩
      | sure s' =>
        obtain ⟨a, u, rfl, ha, hu⟩ := (show ∃ a u, v' = .ref a ∧ H' a = some (.tup [.str "sure", u]) ∧ ShAt H' u s' from hv')
        exact ⟨.ref a, rfl, _, _, _, _, false, rfl, .ty "str", .base (.tup ha), kit_ty (by decide +kernel), false, rfl, iteT ⟨.ref a, rfl, a, _, 1, _, rfl, rfl, .inl (.inl ha), atI_nat (j := 1) rfl, u, s', _, rfl, rfl, hu, ht, by have : s'.dep + 1 + i ≤ 4 := hd'; omega⟩⟩
      | list s' =>
        obtain ⟨a, u, rfl, ha, hu⟩ := (show ∃ a u, v' = .ref a ∧ H' a = some (.tup [.str "list", u]) ∧ ShAt H' u s' from hv')
        exact ⟨.ref a, rfl, _, _, _, _, false, rfl, .ty "str", .base (.tup ha), kit_ty (by decide +kernel), false, rfl, iteT ⟨.ref a, rfl, a, _, 1, _, rfl, rfl, .inl (.inl ha), atI_nat (j := 1) rfl, u, s', _, rfl, rfl, hu, ht, by have : s'.dep + 1 + i ≤ 4 := hd'; omega⟩⟩
    · rintro σ H' ⟨v', s', y, rfl, rfl, hv', ht, hd'⟩
      cases s' with
      | base z =>
        obtain rfl : v' = .str z := hv'
        obtain rfl : z = s.tgt := ht
        exact ⟨.str _, rfl, q⟩
      | sure s' => exact absurd hd' (by show ¬ (s'.dep + 1 + 4 ≤ 4); omega)
      | list s' => exact absurd hd' (by show ¬ (s'.dep + 1 + 4 ≤ 4); omega)
def spLtable : Sp := fun vs H Q _ => ∃ (q kt ft ut : Addr) (ks : List KRow) (fs : List FRow) (us : List URow) (root z : Str), vs = [.ref q, .str z] ∧ SchT H q kt ft ut ks fs us root ∧
  ∀ (fds : List Fld) d H', FdsOf ks fs z fds → (∀ f ∈ fds, ShAt H' f.2.1 f.2.2) → Same H H' → H' d = some (.dK (fkv fds)) → Q (.ref d) H'
theorem ok_Ltable {f : Addr} {fd : FuncData} (D : Df K mg "_law_table" s_Ltable f fd ["_law_schema_here", "_law_base"]) (T : Nms mg) : FnOk P w K mg base CX0 1 f fd ["_law_schema_here", "_law_base"] spLtable := by
  refine D.F.ok sc_Ltable (fun vs H Q E h => ?_) (fun cdv A outer s H vs Q E hr h => ?_)
  · obtain ⟨q, kt, ft, ut, ks, fs, us, root, z, rfl, _⟩ := h
    rfl
  · obtain ⟨q, kt, ft, ut, ks, fs, us, root, z, rfl, ⟨hq, S, ok⟩, k⟩ := h
    have hu := hu_of hr
    refine ⟨_, (pss_cons (ps_if (pt_cmp (pc_din hu (pv 1) (pe_ix ix_tup (pv 0) pe_int (fun _ _ => rfl))) rfl)
       (pss_one (ps_ret (pe_ix ix_tup (pe_dget hu (pe_ix ix_tup (pv 0) pe_int (fun _ _ => rfl)) (pv 1) (fun _ _ => rfl)) pe_int (fun _ _ => rfl))))
       pss_nil)
      (pss_cons (ps_if (pt_cmp (pc_din hu (pv 1) (pe_ix ix_tup (pv 0) pe_int (fun _ _ => rfl))) rfl)
       (pss_one (ps_ret (pe_dget hu (pe_ix ix_tup (pv 0) pe_int (fun _ _ => rfl)) (pv 1) (fun _ _ => rfl))))
       pss_nil)
      (pss_one (ps_ret pe_dnewK)))), ?_⟩
    have hT : SqT K H q [.ref kt, .ref ft, .ref ut, .str root] := .inl (.inl hq)
    refine ⟨.str z, rfl, .ref q, rfl, q, _, 0, _, rfl, rfl, hT, atI_nat (j := 0) rfl, kt, _, rfl, .inl ⟨kkv ks, .inr z, .inl S.kd, rfl, rfl⟩, _, rfl, ?_⟩
    by_cases hk : z ∈ ks.map (·.nm)
    · obtain ⟨r, rm, rfl⟩ := List.mem_map.mp hk
      rw [kkv_val ok.ndk rm]
      have hr' := S.ka r rm
      exact iteT ⟨.ref q, rfl, q, _, 0, _, rfl, rfl, hT, atI_nat (j := 0) rfl, .str r.nm, rfl, kt, _, rfl, .inl ⟨kkv ks, .inr r.nm, .inl S.kd, rfl, (kkv_val ok.ndk rm).symm⟩, r.t, _, 1, _, rfl, rfl, .inl (.inl hr'.t), atI_nat (j := 1) rfl, k r.fds r.da H (.inl ⟨r, rm, rfl, rfl⟩) (fun f m => hr'.d.sh f m) (Same.refl _) hr'.d.at_⟩
    · have e0 : valV (kkv ks) (Sum.inr z) = none := valV_out (f := fun k : KRow => k.nm) (g := fun k => V.ref k.t) hk
      rw [e0]
      refine iteF ⟨.str z, rfl, .ref q, rfl, q, _, 1, _, rfl, rfl, hT, atI_nat (j := 1) rfl, ft, _, rfl, .inl ⟨fkvs fs, .inr z, .inl S.fd, rfl, rfl⟩, _, rfl, ?_⟩
      by_cases hf : z ∈ fs.map (·.nm)
      · obtain ⟨r, rm, rfl⟩ := List.mem_map.mp hf
        rw [fkvs_val ok.ndf rm]
        have hr' := S.fa r rm
        exact iteT ⟨.ref q, rfl, q, _, 1, _, rfl, rfl, hT, atI_nat (j := 1) rfl, .str r.nm, rfl, ft, _, rfl, .inl ⟨fkvs fs, .inr r.nm, .inl S.fd, rfl, (fkvs_val ok.ndf rm).symm⟩, k r.fds r.da H (.inr (.inl ⟨hk, r, rm, rfl, rfl⟩)) (fun f m => hr'.sh f m) (Same.refl _) hr'.at_⟩
      · have e1 : valV (fkvs fs) (Sum.inr z) = none := valV_out (f := fun k : FRow => k.nm) (g := fun k => V.ref k.da) hf
        rw [e1]
        exact iteF fun p np => k [] p _ (.inr (.inr ⟨hk, hf, rfl⟩)) (fun _ m => nomatch m) (same_new np) upd_same
end
end NW
namespace NW
open PySem PySem.Spec PyProof.Rows L2
open TL (tl)
open StX (pa_star)
abbrev s_Lmembers : Stmt := topS 77
abbrev N_Lmembers : List Str := ["_law_schema_here", "_law_base", "_law_kind_here"]
theorem sc_Lmembers : FnScope N_Lmembers ["_law_schema_here", "_law_base"] (defScope s_Lmembers) := ⟨rfl, rfl, rfl, by decide +kernel, rfl, by decide +kernel, by decide +kernel⟩
abbrev s_Schema_members : Stmt := inClass (topS 69) 7
abbrev N_Schema_members : List Str := ["self", "base", "kind"]
theorem sc_Schema_members : FnScope N_Schema_members ["self", "base"] (defScope s_Schema_members) := ⟨rfl, rfl, rfl, by decide +kernel, rfl, by decide +kernel, by decide +kernel⟩
theorem pe_fldK {X : Cx} (K : PySem.W.Frag) {e : Expr} {f : Str} {ta : TE} {pos : Pos} (he : PE X e ta) (hb : attributeBase e f X.env (eval e X.env) = eval e X.env) (h : X.K = K := by rfl) : PE X (.Attribute e f pos) (tFld K ta f) := h ▸ pe_fld he hb
section
variable {P : Program} {w : World} {K : PySem.W.Frag} {mg : Str → Option Value} {base : Heap}

def spLmembers : Sp := fun vs H Q _ => ∃ (q kt ft ut : Addr) (ks : List KRow) (fs : List FRow) (us : List URow) (root z : Str), vs = [.ref q, .str z] ∧ SchT H q kt ft ut ks fs us root ∧
  ∀ (l : List Str) p H', MemL ks us z l → Same H H' → H p = none → H' p = some (.lst (l.map V.str)) → Q (.ref p) H'
theorem ok_Lmembers {f : Addr} {fd : FuncData} (D : Df K mg "_law_members" s_Lmembers f fd ["_law_schema_here", "_law_base"]) (T : Nms mg) : FnOk P w K mg base CX0 1 f fd ["_law_schema_here", "_law_base"] spLmembers := by
  refine D.F.ok sc_Lmembers (fun vs H Q E h => ?_) (fun cdv A outer s H vs Q E hr h => ?_)
  · obtain ⟨q, kt, ft, ut, ks, fs, us, root, z, rfl, _⟩ := h
    rfl
  · obtain ⟨q, kt, ft, ut, ks, fs, us, root, z, rfl, ⟨hq, S, ok⟩, k⟩ := h
    have hu := hu_of hr
    refine ⟨_, (pss_cons (ps_if (pt_cmp (pc_din hu (pv 1) (pe_ix (ix_tupK K) (pv 0) pe_int (fun _ _ => rfl))) rfl)
       (pss_one (ps_ret (pe_lst (pa_cons (pv 1) pa_nil))))
       pss_nil)
      (pss_cons (ps_if (pt_cmp (pc_din hu (pv 1) (pe_ix (ix_tupK K) (pv 0) pe_int (fun _ _ => rfl))) rfl)
       (pss_one (ps_ret (pe_callB (call_sortedTup K) (by rfl) T.n_sorted (by decide +kernel) (pa_cons (pe_dget hu (pe_ix (ix_tupK K) (pv 0) pe_int (fun _ _ => rfl)) (pv 1) (fun _ _ => rfl)) pa_nil))))
       pss_nil)
      (pss_one (ps_ret (pe_callB cr_sortedS (by rfl) T.n_sorted (by decide +kernel) (pa_cons (pe_lock (pe_lc (own := [("_law_kind_here", 2)]) (g := (gName 2)) rfl sc_Lmembers.nd (pi_keys (pe_ix (ix_tupK K) (pv 0) pe_int (fun _ _ => rfl))) (blkOk_by (own := [("_law_kind_here", 2)]) (N := N_Lmembers) (sc := defScope s_Lmembers) (by decide +kernel)) (fun _ _ _ _ _ => (pg_name (i := 2) sc_Lmembers.nd rfl (.inl rfl))) (fun _ _ _ _ _ => pts_one (pt_cmpR (op_in_seqK K) (pv 1) (pe_ix (ix_tupK K) (pe_dget hu (pe_ix (ix_tupK K) (pv 0) pe_int (fun _ _ => rfl)) (pv 2) (fun _ _ => rfl)) pe_int (fun _ _ => rfl)) (by rfl))) (fun _ _ _ _ _ => (pv 2)))) pa_nil)))))), ?_⟩
    have k1 := ok.k1
    have u1 := ok.u1
    have hT : SqT K H q [.ref kt, .ref ft, .ref ut, .str root] := .inl (.inl hq)
    refine ⟨.str z, rfl, .ref q, rfl, q, _, 0, _, rfl, rfl, hT, atI_nat (j := 0) rfl, kt, _, rfl, .inl ⟨kkv ks, .inr z, .inl S.kd, rfl, rfl⟩, _, rfl, ?_⟩
    by_cases hk : z ∈ ks.map (·.nm)
    · rw [kkv_some ok.ndk hk]
      exact iteT ⟨.str z, rfl, by show 1 ≤ sizeLine; decide, fun p np => k [z] p _ ⟨rfl, by show 1 ≤ 6; decide, .inl ⟨hk, rfl⟩⟩ (same_new np) np upd_same⟩
    · have e0 : valV (kkv ks) (Sum.inr z) = none := valV_out (f := fun k : KRow => k.nm) (g := fun k => V.ref k.t) hk
      rw [e0]
      refine iteF ⟨.str z, rfl, .ref q, rfl, q, _, 2, _, rfl, rfl, hT, atI_nat (j := 2) rfl, ut, _, rfl, .inl ⟨ukv us, .inr z, .inl S.ud, rfl, rfl⟩, _, rfl, ?_⟩
      by_cases hu' : z ∈ us.map (·.nm)
      · obtain ⟨u, um, rfl⟩ := List.mem_map.mp hu'
        rw [ukv_val ok.ndu um]
        obtain ⟨_, _, n3, _⟩ := ok.ud u um
        refine iteT ⟨.ref q, rfl, q, _, 2, _, rfl, rfl, hT, atI_nat (j := 2) rfl, .str u.nm, rfl, ut, _, rfl, .inl ⟨ukv us, .inr u.nm, .inl S.ud, rfl, (ukv_val ok.ndu um).symm⟩, u.t, u.ms, rfl, .inl (.inl (S.ua u um)), by omega, fun ys p pm so np => k ys p _ ⟨so, by rw [pm.length_eq]; omega, .inr (.inl ⟨hk, u, um, rfl, pm⟩)⟩ (same_new np) np upd_same⟩
      · have e1 : valV (ukv us) (Sum.inr z) = none := valV_out (f := fun k : URow => k.nm) (g := fun k => V.ref k.t) hu'
        rw [e1]
        refine iteF ⟨kt, .dK (kkv ks), S.kd, trivial, fun od => ⟨.ref q, rfl, q, _, 0, _, rfl, rfl, .inl (.inl (by rw [upd_ne (ne_of hq S.kd (by intro z; cases z))]; exact hq)), atI_nat (j := 0) rfl, kt, od, rfl, .inl ⟨kkv ks, upd_same, fun Da nD => ?_⟩⟩⟩
        have hkl : (kkv ks).length = ks.length := List.length_map ..
        refine lc_it walk_keys (fun i H' => Same (upd H kt (.frz od (.dK (kkv ks)))) H' ∧ H' Da = some (.lst (((ks.take i).filter fun k => decide (z ∈ k.fcs)).map fun k => V.str k.nm))) ⟨same_new nD, upd_same⟩ (fun i H _ p => p.1 _ _ upd_same) ?_ ?_
        · rintro i x H2 H3 hi ⟨sm, e2⟩ ⟨rfl, kk, v, e, rfl⟩
          obtain ⟨r, er, rfl, rfl⟩ := kkv_at e
          have hm := List.mem_of_getElem? er
          have rk : Rd H3 kt (.dK (kkv ks)) := .inr ⟨od, sm _ _ upd_same⟩
          have hr' := S.ka r hm
          have hq3 : SqT K H3 q [.ref kt, .ref ft, .ref ut, .str root] := .inl (.inl (sm _ _ (by rw [upd_ne (ne_of hq S.kd (by intro z; cases z))]; exact hq)))
          have ht : SqT K H3 r.t [.ref r.fa, .ref r.da] := .inl (.inl (sm _ _ (by rw [upd_ne (ne_of hr'.t S.kd (by intro z; cases z))]; exact hr'.t)))
          have hfa : SqT K H3 r.fa (r.fcs.map V.str) := .inl (.inl (sm _ _ (by rw [upd_ne (ne_of hr'.f S.kd (by intro z; cases z))]; exact hr'.f)))
          have et : ks.take (i + 1) = ks.take i ++ [r] := by rw [List.take_add_one, er]; rfl
          refine ⟨rfl, .str z, rfl, .ref q, rfl, q, _, 0, _, rfl, rfl, hq3, atI_nat (j := 0) rfl, .str r.nm, rfl, kt, _, rfl, .inl ⟨kkv ks, .inr r.nm, rk, rfl, (kkv_val ok.ndk hm).symm⟩, r.t, _, 0, _, rfl, rfl, ht, atI_nat (j := 0) rfl, r.fa, _, rfl, .inr hfa, rfl, flat_map _, _, rfl, ?_⟩
          by_cases hin : z ∈ r.fcs
          · show if (if false = true then !inV (.str z) (r.fcs.map V.str) else inV (.str z) (r.fcs.map V.str)) = true then _ else _
            rw [if_neg (show ¬ (false = true) by decide), inV_strs, decide_eq_true hin, if_pos rfl]
            refine ⟨.str r.nm, rfl, _, e2, ?_, same_upd sm nD, ?_⟩
            · rw [List.length_map]
              have h1 := List.length_filter_le (fun k : KRow => decide (z ∈ k.fcs)) (ks.take i)
              have h2 := List.length_take_le i ks
              exact Nat.lt_of_le_of_lt (show _ ≤ 1000 by omega) (by decide)
            · rw [upd_same, et, List.filter_append, List.map_append]
              rw [List.filter_cons_of_pos (by simpa using hin)]
              rfl
          · show if (if false = true then !inV (.str z) (r.fcs.map V.str) else inV (.str z) (r.fcs.map V.str)) = true then _ else _
            rw [if_neg (show ¬ (false = true) by decide), inV_strs, decide_eq_false hin, if_neg (by decide)]
            refine ⟨sm, ?_⟩
            rw [et, List.filter_append, List.filter_cons_of_neg (by simpa using hin), List.filter_nil, List.append_nil]
            exact e2
        · rintro H2 ⟨sm, e2⟩
          rw [hkl, List.take_length] at e2
          refine ⟨sm _ _ upd_same, ?_⟩
          have nDk : Da ≠ kt := fun z => by rw [z, upd_same] at nD; cases nD
          have s2 : Same H (upd H2 kt (.dK (kkv ks))) := same_unlock S.kd sm
          have e3 : (upd H2 kt (.dK (kkv ks))) Da = some (.lst (((ks.filter fun k => decide (z ∈ k.fcs)).map (·.nm)).map V.str)) := by
            rw [upd_ne nDk, e2, List.map_map]
            rfl
          have hle := List.length_filter_le (fun k : KRow => decide (z ∈ k.fcs)) ks
          refine ⟨Da, _, rfl, SqL.of e3, by rw [List.length_map]; omega, fun ys p pm so np => k ys p _ ⟨so, ?_, .inr (.inr ⟨hk, hu', pm⟩)⟩ (s2.trans (same_new np)) (s2.free np) upd_same⟩
          rw [pm.length_eq, List.length_map]
          omega
end
end NW
namespace NW
open PySem PySem.Spec PyProof.Rows L2
open TL (tl)
open StX (pa_star)
abbrev s_Question_init : Stmt := inClass (topS 51) 0
abbrev N_Question_init : List Str := ["self", "schema", "rows", "parts", "found", "name", "place", "base", "statement"]
theorem sc_Question_init : FnScope N_Question_init ["self", "schema", "rows", "parts"] (defScope s_Question_init) := ⟨rfl, rfl, rfl, by decide +kernel, rfl, by decide +kernel, by decide +kernel⟩
abbrev s_Question_parts : Stmt := inClass (topS 51) 7
abbrev N_Question_parts : List Str := ["self"]
theorem sc_Question_parts : FnScope N_Question_parts ["self"] (defScope s_Question_parts) := ⟨rfl, rfl, rfl, by decide +kernel, rfl, by decide +kernel, by decide +kernel⟩
abbrev s_is_plain_int : Stmt := topS 15
abbrev N_is_plain_int : List Str := ["number"]
theorem sc_is_plain_int : FnScope N_is_plain_int ["number"] (defScope s_is_plain_int) := ⟨rfl, rfl, rfl, by decide +kernel, rfl, by decide +kernel, by decide +kernel⟩
/-! ### a Question in the heap -/
structure QT (K : PySem.W.Frag) (C : Addr) : Prop where
  cl : Cls K C
  n1 : NoAttr K C "schema"
  n2 : NoAttr K C "rows"
  n3 : NoAttr K C "part_table"
  n4 : NoAttr K C "statement_table"
def qfs (x : Addr) (r : V) (pt st : Addr) : List (Str × V) := [("schema", V.ref x), ("rows", r), ("part_table", V.ref pt), ("statement_table", V.ref st)]
theorem qn1 : ¬ (("rows" : Str) = "schema") := by decide +kernel
theorem qn2 : ¬ (("part_table" : Str) = "schema") := by decide +kernel
theorem qn3 : ¬ (("statement_table" : Str) = "schema") := by decide +kernel
theorem qn4 : ¬ (("part_table" : Str) = "rows") := by decide +kernel
theorem qn5 : ¬ (("statement_table" : Str) = "rows") := by decide +kernel
theorem qn6 : ¬ (("statement_table" : Str) = "part_table") := by decide +kernel
theorem qp2 (x : Addr) (r : V) : putF "rows" r [(("schema" : Str), V.ref x)] = [(("schema" : Str), V.ref x), ("rows", r)] := by
  show (if ("schema" : Str) = "rows" then _ else _) = _
  rw [if_neg (fun e => qn1 e.symm)]
  rfl
theorem qp3 (x : Addr) (r : V) (pt : Addr) : putF "part_table" (.ref pt) [(("schema" : Str), V.ref x), ("rows", r)] = [(("schema" : Str), V.ref x), ("rows", r), ("part_table", V.ref pt)] := by
  show (if ("schema" : Str) = "part_table" then _ else _ :: (if ("rows" : Str) = "part_table" then _ else _)) = _
  rw [if_neg (fun e => qn2 e.symm), if_neg (fun e => qn4 e.symm)]
  rfl
theorem qp4 (x : Addr) (r : V) (pt st : Addr) : putF "statement_table" (.ref st) [(("schema" : Str), V.ref x), ("rows", r), ("part_table", V.ref pt)] = qfs x r pt st := by
  show (if ("schema" : Str) = "statement_table" then _ else _ :: (if ("rows" : Str) = "statement_table" then _ else _ :: (if ("part_table" : Str) = "statement_table" then _ else _))) = _
  rw [if_neg (fun e => qn3 e.symm), if_neg (fun e => qn5 e.symm), if_neg (fun e => qn6 e.symm)]
  rfl
section
variable (x : Addr) (r : V) (pt st : Addr)
theorem lqs : (qfs x r pt st).lookup ("schema" : Str) = some (.ref x) := by simp [qfs, List.lookup]
theorem lqr : (qfs x r pt st).lookup ("rows" : Str) = some r := by
  have h1 : (("rows" : Str) == "schema") = false := beq_eq_false_iff_ne.mpr qn1
  simp [qfs, List.lookup, h1]
theorem lqp : (qfs x r pt st).lookup ("part_table" : Str) = some (.ref pt) := by
  have h1 : (("part_table" : Str) == "schema") = false := beq_eq_false_iff_ne.mpr qn2
  have h2 : (("part_table" : Str) == "rows") = false := beq_eq_false_iff_ne.mpr qn4
  simp [qfs, List.lookup, h1, h2]
theorem lqt : (qfs x r pt st).lookup ("statement_table" : Str) = some (.ref st) := by
  have h1 : (("statement_table" : Str) == "schema") = false := beq_eq_false_iff_ne.mpr qn3
  have h2 : (("statement_table" : Str) == "rows") = false := beq_eq_false_iff_ne.mpr qn5
  have h3 : (("statement_table" : Str) == "part_table") = false := beq_eq_false_iff_ne.mpr qn6
  simp [qfs, List.lookup, h1, h2, h3]
theorem lqn {m : Str} (h1 : ¬ m = "schema") (h2 : ¬ m = "rows") (h3 : ¬ m = "part_table") (h4 : ¬ m = "statement_table") : (qfs x r pt st).lookup m = none := by
  have e1 := beq_eq_false_iff_ne.mpr h1
  have e2 := beq_eq_false_iff_ne.mpr h2
  have e3 := beq_eq_false_iff_ne.mpr h3
  have e4 := beq_eq_false_iff_ne.mpr h4
  simp [qfs, List.lookup, e1, e2, e3, e4]
end
/-- the table of statements -/
def stv (its : List Itm) (es : List Addr) : List (List Key × V) := (its.zip es).map fun p => (p.1.pl, V.ref p.2)
def EntAt (H : Hp) (a : Addr) (i : Itm) : Prop := ∃ s, H a = some (.tup [.str i.z, s]) ∧ StAt H s i.t
theorem EntAt.tk {H H' : Hp} {a : Addr} {i : Itm} (k : Tk H H') (h : EntAt H a i) : EntAt H' a i := by
  obtain ⟨s, h1, h2⟩ := h
  exact ⟨s, k _ _ h1, h2.tk k⟩
def EntsAt (H : Hp) (its : List Itm) (es : List Addr) : Prop := es.length = its.length ∧ ∀ (j : Nat) (i : Itm) (a : Addr), its[j]? = some i → es[j]? = some a → EntAt H a i
theorem EntsAt.tk {H H' : Hp} {its : List Itm} {es : List Addr} (k : Tk H H') (h : EntsAt H its es) : EntsAt H' its es := ⟨h.1, fun j i a e1 e2 => (h.2 j i a e1 e2).tk k⟩
theorem stv_mem {its : List Itm} {es : List Addr} {pl : List Key} {v : V} (m : (pl, v) ∈ stv its es) : ∃ (j : Nat) (i : Itm) (a : Addr), its[j]? = some i ∧ es[j]? = some a ∧ i.pl = pl ∧ v = .ref a := by
  obtain ⟨p, mp, e⟩ := List.mem_map.mp m
  obtain ⟨j, hj, ej⟩ := List.getElem_of_mem mp
  have hz := List.getElem?_eq_getElem hj
  rw [ej] at hz
  obtain ⟨h1, h2⟩ := List.getElem?_zip_eq_some.mp hz
  cases e
  exact ⟨j, p.1, p.2, h1, h2, rfl, rfl⟩
theorem stv_keys {its : List Itm} {es : List Addr} (h : es.length = its.length) : (stv its es).map (·.1) = its.map (·.pl) := by
  unfold stv
  rw [List.map_map]
  have : (its.zip es).map (fun p => p.1.pl) = ((its.zip es).map Prod.fst).map (·.pl) := by rw [List.map_map]; rfl
  have h2 : (its.zip es).map Prod.fst = its := List.map_fst_zip (by omega)
  rw [h2] at this
  exact this
theorem valVT_nd : ∀ {kvs : List (List Key × V)} {k : List Key} {v : V}, (kvs.map (·.1)).Nodup → (k, v) ∈ kvs → valV kvs k = some v
  | p :: r, k, v, nd, m => by
    have nd' := List.nodup_cons.mp nd
    rcases List.mem_cons.mp m with rfl | m
    · exact valV_pos rfl
    · rw [valV_neg fun e => nd'.1 (List.mem_map.mpr ⟨(k, v), m, e.symm⟩)]
      exact valVT_nd nd'.2 m
theorem valVT_out {kvs : List (List Key × V)} {k : List Key} (h : k ∉ kvs.map (·.1)) : valV kvs k = none := by
  unfold valV
  rw [List.find?_eq_none.mpr]
  · rfl
  · intro x hx e
    exact h (List.mem_map.mpr ⟨x, hx, of_decide_eq_true e⟩)
theorem stv_val {its : List Itm} {es : List Addr} (nd : (its.map (·.pl)).Nodup) (h : es.length = its.length) {j : Nat} {i : Itm} {a : Addr} (e1 : its[j]? = some i) (e2 : es[j]? = some a) : valV (stv its es) i.pl = some (.ref a) := by
  refine valVT_nd (by rw [stv_keys h]; exact nd) ?_
  exact List.mem_map.mpr ⟨(i, a), List.mem_of_getElem? (List.getElem?_zip_eq_some.mpr ⟨e1, e2⟩), rfl⟩
open Classical in
theorem stv_some {its : List Itm} {es : List Addr} (nd : (its.map (·.pl)).Nodup) (h : es.length = its.length) (pl : List Key) : (valV (stv its es) pl).isSome = decide (pl ∈ its.map (·.pl)) := by
  by_cases m : pl ∈ its.map (·.pl)
  · obtain ⟨i, mi, rfl⟩ := List.mem_map.mp m
    obtain ⟨j, hj, ej⟩ := List.getElem_of_mem mi
    have e1 : its[j]? = some i := by rw [List.getElem?_eq_getElem hj, ej]
    have e2 : es[j]? = some (es[j]'(by omega)) := List.getElem?_eq_getElem _
    rw [stv_val nd h e1 e2, decide_eq_true m]
    rfl
  · rw [valVT_out (by rw [stv_keys h]; exact m), decide_eq_false m]
    rfl
theorem stv_put {its : List Itm} {es : List Addr} {j : Nat} {i : Itm} {a : Addr} (nd : (its.map (·.pl)).Nodup) (h : es.length = j) (e : its[j]? = some i) : putK (stv (its.take j) es) i.pl (.ref a) = stv (its.take (j + 1)) (es ++ [a]) := by
  have hj : j < its.length := (List.getElem?_eq_some_iff.mp e).1
  have hl : es.length = (its.take j).length := by rw [h, List.length_take]; omega
  have hn : i.pl ∉ (stv (its.take j) es).map (·.1) := by
    rw [stv_keys hl]
    intro m
    have eB : its = its.take (j + 1) ++ its.drop (j + 1) := (List.take_append_drop _ _).symm
    rw [takeS e] at eB
    rw [eB, List.map_append, List.map_append] at nd
    exact (List.nodup_append.mp (List.nodup_append.mp nd).1).2.2 _ m _ (List.mem_singleton.mpr rfl) rfl
  rw [putK_new _ (valVT_out hn), takeS e]
  unfold stv
  rw [List.zip_append hl.symm, List.map_append]
  rfl
theorem ptv_put {ps : List PRow} {p : PRow} {i : Nat} (nd : (ps.map (·.nm)).Nodup) (e : ps[i]? = some p) : putK (ptv (ps.take i)) (Sum.inr p.nm) (.ref p.t) = ptv (ps.take (i + 1)) := by
  have hn : p.nm ∉ (ps.take i).map (fun p : PRow => p.nm) := name_new (f := fun p : PRow => p.nm) nd e
  have := put_snoc (f := fun p : PRow => p.nm) (g := fun p : PRow => V.ref p.t) (rs := ps.take i) (r := p) hn
  rw [takeS e]
  exact this
/-- what a question holds -/
def QBuilt (CQ : Addr) (H : Hp) (q x : Addr) (r : V) (ks : List KRow) (fs : List FRow) (root : Str) (rows : List St) (ps : List PRow) : Prop :=
  ∃ dx pt st es, H q = some (.ins CQ dx (qfs x r pt st)) ∧ H pt = some (.dK (ptv ps)) ∧ H st = some (.dT (stv (allItems ks fs ps root rows) es)) ∧ EntsAt H (allItems ks fs ps root rows) es
theorem QBuilt.same {CQ : Addr} {H H' : Hp} {q x : Addr} {r : V} {ks : List KRow} {fs : List FRow} {root : Str} {rows : List St} {ps : List PRow} (s : Same H H') (h : QBuilt CQ H q x r ks fs root rows ps) : QBuilt CQ H' q x r ks fs root rows ps := by
  obtain ⟨dx, pt, st, es, h1, h2, h3, h4⟩ := h
  exact ⟨dx, pt, st, es, s _ _ h1, s _ _ h2, s _ _ h3, h4.tk (Same.tk s)⟩
section
variable {P : Program} {w : World} {K : PySem.W.Frag} {mg : Str → Option Value} {base : Heap}
def spPlainInt (K : PySem.W.Frag) : Sp := fun vs H Q _ => ∃ v, vs = [v] ∧ ((∃ i, v = .int i ∧ Q (.bl true) H) ∨ (∃ b, v = .bl b ∧ Q (.bl false) H) ∨ ∃ t, TyX K H v t ∧ PySem.W.kitOne K t (.type "int") = some false ∧ Q (.bl false) H)
theorem ok_is_plain_int {f : Addr} {fd : FuncData} (D : Df K mg "is_plain_int" s_is_plain_int f fd ["number"]) (T : Nms mg) : FnOk P w K mg base CX0 1 f fd ["number"] (spPlainInt K) := by
  refine D.F.ok sc_is_plain_int (fun vs H Q E h => ?_) (fun cdv A outer s H vs Q E hr h => ?_)
  · obtain ⟨v, rfl, _⟩ := h
    rfl
  · obtain ⟨v, rfl, h⟩ := h
    refine ⟨_, (pss_one (ps_ret (pe_and (pe_callB call_isi (by rfl) T.n_isinstance (by decide +kernel) (pa_cons (pv 0) (pa_cons (pe_bltn (v := .ty "int") (by rfl) T.n_int (by decide +kernel) rfl) pa_nil))) (pe_one (pe_not (pe_callB call_isi (by rfl) T.n_isinstance (by decide +kernel) (pa_cons (pv 0) (pa_cons (pe_bltn (v := .ty "bool") (by rfl) T.n_bool (by decide +kernel) rfl) pa_nil)))))))), ?_⟩
    rcases h with ⟨i, rfl, q⟩ | ⟨b, rfl, q⟩ | ⟨t, ht, hk, q⟩
    · exact ⟨.int i, rfl, _, _, _, _, true, rfl, .ty "int", .base (.int i), kit_ty (by decide +kernel), true, rfl, iteT ⟨.int i, rfl, _, _, _, _, false, rfl, .ty "bool", .base (.int i), kit_ty (by decide +kernel), false, rfl, q⟩⟩
    · exact ⟨.bl b, rfl, _, _, _, _, true, rfl, .ty "int", .base (.bl b), kit_ty (by decide +kernel), true, rfl, iteT ⟨.bl b, rfl, _, _, _, _, true, rfl, .ty "bool", .base (.bl b), kit_ty (by decide +kernel), true, rfl, q⟩⟩
    · exact ⟨v, rfl, v, _, _, _, false, rfl, .ty "int", ht, hk, false, rfl, iteF q⟩
def spQInit (C CQ : Addr) : Sp := fun vs H Q _ => ∃ (q dx x pa : Addr) (r : V) (rows : List St) (ps : List PRow) (F : List Str) (rk : Str → Nat) (ks : List KRow) (fs : List FRow) (us : List URow) (root : Str), vs = [.ref q, .ref x, r, .ref pa] ∧ H q = some (.ins CQ dx []) ∧ BuiltAt C H x ks fs us root ∧ SchOk ks fs us root ∧
  H pa = some (.dK (ptv ps)) ∧ (∀ p ∈ ps, p.At H) ∧ RowAt H r rows ∧ QOk ks fs us root rows ps F rk ∧
  ∀ H', Gr q H H' → QBuilt CQ H' q x r ks fs root rows ps → Q .non H'
theorem ok_q_init {f f1 C CQ : Addr} {fd fd1 : FuncData} (F : Fun K "__init__" "Question.__init__" s_Question_init f fd) (D_checked_statements : Df K mg "checked_statements" s_checked_statements f1 fd1 ["schema", "rows", "parts"])
    (G_checked_statements : FnOk P w K mg base CX0 14 f1 fd1 ["schema", "rows", "parts"] (spChecked C)) (T : Nms mg) (L : QT K CQ) : FnOk P w K mg base CX0 15 f fd ["self", "schema", "rows", "parts"] (spQInit C CQ) := by
  refine F.ok sc_Question_init (fun vs H Q E h => ?_) (fun cdv A outer s H vs Q E hr h => ?_)
  · obtain ⟨q, dx, x, pa, r, rows, ps, F, rk, ks, fs, us, root, rfl, _⟩ := h
    rfl
  · obtain ⟨q, dx, x, pa, r, rows, ps, F, rk, ks, fs, us, root, rfl, hq, Bt, ok, hpa, hat, hrow, qk, k⟩ := h
    have hu := hu_of hr
    refine ⟨_, (pss_cons (ps_set (i := 4) sc_Question_init.nd rfl (.inl rfl) (pe_call G_checked_statements (hr.mono (by decide)) (by rfl) D_checked_statements.g D_checked_statements.F.kp D_checked_statements.b .nil pass0 (pa_cons (pv 1) (pa_cons (pv 2) (pa_cons (pv 3) pa_nil)))))
      (pss_cons (ps_fld (pv 0) (pv 1) rfl)
      (pss_cons (ps_fld (pv 0) (pv 2) rfl)
      (pss_cons (ps_fld (pv 0) (pe_lock (pe_dc (own := [("name", 5)]) (g := (gName 5)) (tt := tYes) rfl sc_Question_init.nd (pi_keys (pv 3)) (blkOk_by (own := [("name", 5)]) (N := N_Question_init) (sc := defScope s_Question_init) (by decide +kernel)) (fun _ _ _ _ _ => (pg_name (i := 5) sc_Question_init.nd rfl (.inl rfl))) (fun _ _ _ _ _ => pts_nil) (fun _ _ _ _ _ => (pv 5)) (fun _ _ _ _ _ => (pe_dget hu (pv 3) (pv 5) (fun _ _ => rfl))))) rfl)
      (pss_one (ps_fld (pv 0) (pe_dcT (mine := [("place", 6), ("base", 7), ("statement", 8)]) (g := gTup K 3 (gCons (gName 6) (gCons (gName 7) (gCons (gName 8) gNil)))) (tt := tYes) rfl hu sc_Question_init.nd (pi_list (pv 4)) (blkOk_by (own := [("place", 6), ("base", 7), ("statement", 8)]) (N := N_Question_init) (sc := defScope s_Question_init) (by decide +kernel)) (fun _ _ _ _ _ => (pg_tup (by rfl) (pgs_cons (pg_name (i := 6) sc_Question_init.nd rfl (.inl rfl)) (pgs_cons (pg_name (i := 7) sc_Question_init.nd rfl (.inl rfl)) (pgs_cons (pg_name (i := 8) sc_Question_init.nd rfl (.inl rfl)) pgs_nil))))) (fun _ _ _ _ _ => pts_nil) (fun _ _ _ _ _ => (pv 6)) (fun _ _ _ _ _ => (pe_tup (pa_cons (pv 7) (pa_cons (pv 8) pa_nil))))) rfl)))))), ?_⟩
    have hS : ∀ n : Nat, n ≤ 1000 → n ≤ sizeLine := fun n h => Nat.le_trans h (by decide)
    have lt : ∀ n : Nat, n ≤ 1000 → n < sizeLine := fun n h => Nat.lt_of_le_of_lt h (by decide)
    have po := qk.po
    have n4 := po.n4
    have few := qk.few
    refine ⟨.ref x, rfl, r, rfl, .ref pa, rfl, x, pa, r, rows, ps, F, rk, ks, fs, us, root, rfl, Bt, ok, hpa, hat, hrow, qk, fun pf ys H1 s1 npf ef hits => ?_⟩
    have nd : ((allItems ks fs ps root rows).map (·.pl)).Nodup := all_nd po.nd
    unfold QBuilt at k
    generalize allItems ks fs ps root rows = its at few hits nd k
    have hq1 := s1 _ _ hq
    have O1 : Oth H1 q := ⟨_, hq1, (by intro _ z; cases z), (by intro _ z; cases z)⟩
    have hpa1 := s1 _ _ hpa
    have npq : pa ≠ q := fun e => by rw [e, hq] at hpa; cases hpa
    have nfq : pf ≠ q := fun e => by rw [e, hq] at npf; cases npf
    -- schema, rows
    refine ⟨.ref x, rfl, .ref q, rfl, q, CQ, dx, [], rfl, hq1, L.cl, L.n1, by show 0 < 1000; decide, ?_⟩
    refine ⟨r, rfl, .ref q, rfl, q, CQ, dx, _, rfl, upd_same, L.cl, L.n2, by show 1 < 1000; decide, ?_⟩
    have e2 : (upd (upd H1 q (.ins CQ dx (putF "schema" (.ref x) []))) q (.ins CQ dx (putF "rows" r (putF "schema" (.ref x) [])))) q = some (.ins CQ dx [("schema", .ref x), ("rows", r)]) := by
      rw [upd_same]
      exact congrArg (fun z => some (HO.ins CQ dx z)) (qp2 x r)
    have g2 : Gr q H1 (upd (upd H1 q (.ins CQ dx (putF "schema" (.ref x) []))) q (.ins CQ dx (putF "rows" r (putF "schema" (.ref x) [])))) := Gr.box.trans Gr.box
    generalize upd (upd H1 q (.ins CQ dx (putF "schema" (.ref x) []))) q (.ins CQ dx (putF "rows" r (putF "schema" (.ref x) []))) = H2 at e2 g2
    have hpa2 := g2 _ _ npq hpa1
    have ef2 := g2 _ _ nfq ef
    -- part_table
    refine ⟨pa, .dK (ptv ps), hpa2, trivial, fun od => ⟨.ref pa, rfl, pa, od, rfl, .inl ⟨ptv ps, upd_same, fun Da nD => ?_⟩⟩⟩
    have nDp : Da ≠ pa := fun z => by rw [z, upd_same] at nD; cases nD
    have hl : (ptv ps).length = ps.length := List.length_map ..
    refine dc_it walk_keys (fun i H' => Same (upd H2 pa (.frz od (.dK (ptv ps)))) H' ∧ H' Da = some (.dK (ptv (ps.take i)))) ⟨same_new nD, upd_same⟩ (fun i H _ p => p.1 _ _ upd_same) ?_ ?_
    · rintro i y H3 H4 hi ⟨sm, eD⟩ ⟨rfl, kk, v, e, rfl⟩
      obtain ⟨p, ep, rfl, rfl⟩ := ptv_at e
      refine ⟨rfl, lcT ⟨.str p.nm, rfl, .ref pa, rfl, .str p.nm, rfl, pa, .ref p.t, rfl, .inl ⟨ptv ps, .inr p.nm, .inr ⟨od, sm _ _ upd_same⟩, rfl, (ptv_val po.nd (List.mem_of_getElem? ep)).symm⟩, ptv (ps.take i), .inr p.nm, rfl, eD, lt _ ?_, same_upd sm nD, ?_⟩⟩
      · rw [show (ptv (ps.take i)).length = (ps.take i).length from List.length_map .., List.length_take]
        omega
      · rw [upd_same]
        exact congrArg (fun z => some (HO.dK z)) (ptv_put po.nd ep)
    rintro H3 ⟨sm, eD⟩
    rw [hl, List.take_length] at eD
    refine ⟨sm _ _ upd_same, ?_⟩
    have s3 : Same H2 (upd H3 pa (.dK (ptv ps))) := same_unlock hpa2 sm
    have eD3 : (upd H3 pa (.dK (ptv ps))) Da = some (.dK (ptv ps)) := by rw [upd_ne nDp]; exact eD
    generalize upd H3 pa (.dK (ptv ps)) = H4 at s3 eD3
    have nDq : Da ≠ q := fun z => by rw [z, s3 _ _ e2] at eD3; cases eD3
    refine ⟨.ref q, rfl, q, CQ, dx, _, rfl, s3 _ _ e2, L.cl, L.n3, by show 2 < 1000; decide, ?_⟩
    have e5 : (upd H4 q (.ins CQ dx (putF "part_table" (.ref Da) [("schema", .ref x), ("rows", r)]))) q = some (.ins CQ dx [("schema", .ref x), ("rows", r), ("part_table", .ref Da)]) := by
      rw [upd_same]
      exact congrArg (fun z => some (HO.ins CQ dx z)) (qp3 x r Da)
    have g5 : Gr q H4 (upd H4 q (.ins CQ dx (putF "part_table" (.ref Da) [("schema", .ref x), ("rows", r)]))) := Gr.box
    generalize upd H4 q (.ins CQ dx (putF "part_table" (.ref Da) [("schema", .ref x), ("rows", r)])) = H5 at e5 g5
    have g15 : Gr q H1 H5 := (g2.trans (Same.gr s3)).trans g5
    have ef5 := g15 _ _ nfq ef
    have eD5 := g5 _ _ nDq eD3
    have k15 : Tk H1 H5 := fun a xs e => g15 a _ (ne_of e hq1 (by intro z; cases z)) e
    have hits5 := hits.tk k15
    have ly := hits.1
    -- statement_table
    refine ⟨.ref pf, rfl, pf, rfl, ⟨_, SqL.of ef5⟩, fun Dt nDt => ?_⟩
    refine dcT_it walk_list (fun i H' => Same H5 H' ∧ ∃ es : List Addr, es.length = i ∧ H' Dt = some (.dT (stv (its.take i) es)) ∧ ∀ (j : Nat) (t : Itm) (a : Addr), its[j]? = some t → es[j]? = some a → EntAt H' a t) ⟨same_new nDt, [], rfl, upd_same, fun j t a _ e => by simp at e⟩ (fun i H _ p => SqL.of (p.1 _ _ ef5)) ?_ ?_
    · rintro i y H6 H7 hi ⟨sm6, es, el, eT, al⟩ ⟨rfl, ey⟩
      obtain ⟨it, ei, hi6⟩ := (hits5.tk (Same.tk sm6)).2 i y ey
      obtain ⟨a, p, st, rfl, h1, h2, h3⟩ := hi6
      refine ⟨a, _, rfl, .inl (.inl h1), rfl, _, _, rfl, _, _, rfl, _, _, rfl, rfl, rfl, lcT ⟨.ref p, rfl, .str it.z, rfl, st, rfl, hS 2 (by decide), fun tt ntt => ?_⟩⟩
      have s7 := same_new (o := .tup [.str it.z, st]) ntt
      have e7 : (upd H7 tt (.tup [.str it.z, st])) tt = some (.tup [.str it.z, st]) := upd_same
      generalize upd H7 tt (.tup [.str it.z, st]) = H8 at s7 e7
      have eT8 := s7 _ _ eT
      refine ⟨_, it.pl, p, rfl, eT8, s7 _ _ h2, lt _ ?_, same_upd (sm6.trans s7) nDt, es ++ [tt], by rw [List.length_append, el]; rfl, ?_, fun j t a' e1 e2' => ?_⟩
      · unfold stv
        rw [List.length_map, List.length_zip, List.length_take]
        omega
      · rw [upd_same]
        exact congrArg (fun z => some (HO.dT z)) (stv_put nd el ei)
      · have k8 : Tk H8 (upd H8 Dt (.dT (putK (stv (its.take i) es) it.pl (.ref tt)))) := Tk.upd eT8 (fun _ z => nomatch z)
        by_cases hj : j < es.length
        · rw [List.getElem?_append_left hj] at e2'
          exact ((al j t a' e1 e2').tk (Same.tk s7)).tk k8
        · rw [List.getElem?_append_right (Nat.le_of_not_lt hj)] at e2'
          have hj0 : j - es.length = 0 := by
            by_cases h0 : j - es.length = 0
            · exact h0
            · rw [List.getElem?_eq_none (by show 1 ≤ j - es.length; omega)] at e2'
              cases e2'
          rw [hj0] at e2'
          cases e2'
          have : j = i := by omega
          subst this
          rw [ei] at e1
          cases e1
          exact EntAt.tk (H := H8) k8 ⟨st, e7, h3.tk (Same.tk s7)⟩
    · rintro H6 ⟨sm6, es, el, eT, al⟩
      rw [ly, List.take_length] at eT
      rw [ly] at el
      have e6 := sm6 _ _ e5
      refine ⟨.ref q, rfl, q, CQ, dx, _, rfl, e6, L.cl, L.n4, by show 3 < 1000; decide, ?_⟩
      have nTq : Dt ≠ q := fun z => by rw [z, e6] at eT; cases eT
      have k7 : Tk H6 (upd H6 q (.ins CQ dx (putF "statement_table" (.ref Dt) [("schema", .ref x), ("rows", r), ("part_table", .ref Da)]))) := Tk.upd e6 (fun _ z => nomatch z)
      refine k _ (((Same.gr s1).trans (g15.trans (Same.gr sm6))).trans Gr.box) ⟨dx, Da, Dt, es, ?_, ?_, ?_, el, fun j t a e1 e2' => (al j t a e1 e2').tk k7⟩
      · rw [upd_same]
        exact congrArg (fun z => some (HO.ins CQ dx z)) (qp4 x r Da Dt)
      · rw [upd_ne nDq]
        exact sm6 _ _ eD5
      · rw [upd_ne nTq]
        exact eT
def spQParts (CQ : Addr) : Sp := fun vs H Q _ => ∃ (q x : Addr) (r : V) (ks : List KRow) (fs : List FRow) (root : Str) (rows : List St) (ps : List PRow), vs = [.ref q] ∧ QBuilt CQ H q x r ks fs root rows ps ∧ ∀ p, H p = none → Q (.ref p) (upd H p (.dK (ptv ps)))
theorem ok_q_parts {f CQ : Addr} {fd : FuncData} (F : Fun K "parts" "Question.parts" s_Question_parts f fd) (T : Nms mg) (L : QT K CQ) : FnOk P w K mg base CX0 1 f fd ["self"] (spQParts CQ) := by
  refine F.ok sc_Question_parts (fun vs H Q E h => ?_) (fun cdv A outer s H vs Q E hr h => ?_)
  · obtain ⟨q, x, r, ks, fs, root, rows, ps, rfl, _⟩ := h
    rfl
  · obtain ⟨q, x, r, ks, fs, root, rows, ps, rfl, ⟨dx, pt, st, es, h1, h2, h3, h4⟩, k⟩ := h
    refine ⟨_, (pss_one (ps_ret (pe_callTy call_dictD (by rfl) T.n_dict (by decide +kernel) (pa_cons (pe_fld (pv 0) rfl) pa_nil)))), ?_⟩
    exact ⟨.ref q, rfl, q, CQ, dx, _, _, rfl, h1, L.cl, L.n3, lqp .., pt, _, rfl, .inl h2, k⟩
end
end NW
namespace NW
open PySem PySem.Spec PyProof.Rows L2
open TL (tl)
open StX (pa_star)
abbrev s_Question_contains : Stmt := inClass (topS 51) 4
abbrev N_Question_contains : List Str := ["self", "place", "step"]
theorem sc_Question_contains : FnScope N_Question_contains ["self", "place"] (defScope s_Question_contains) := ⟨rfl, rfl, rfl, by decide +kernel, rfl, by decide +kernel, by decide +kernel⟩
abbrev s_Question_base_at : Stmt := inClass (topS 51) 10
abbrev N_Question_base_at : List Str := ["self", "place"]
theorem sc_Question_base_at : FnScope N_Question_base_at ["self", "place"] (defScope s_Question_base_at) := ⟨rfl, rfl, rfl, by decide +kernel, rfl, by decide +kernel, by decide +kernel⟩
abbrev s_Question_flags : Stmt := inClass (topS 51) 8
abbrev N_Question_flags : List Str := ["self", "place"]
theorem sc_Question_flags : FnScope N_Question_flags ["self"] (defScope s_Question_flags) := ⟨rfl, rfl, rfl, by decide +kernel, rfl, by decide +kernel, by decide +kernel⟩
theorem call_isiK {X : Cx} (K : PySem.W.Frag) (h : X.K = K := by rfl) : CallR X (.builtin "isinstance") (rIsi K) := h ▸ call_isi
theorem kV_key {H : Hp} {K : PySem.W.Frag} (k : Key) : (∃ z, kV k = .str z) ∨ ∃ i, kV k = .int i := by
  cases k with
  | inl i => exact .inr ⟨i, rfl⟩
  | inr z => exact .inl ⟨z, rfl⟩
section
variable {P : Program} {w : World} {K : PySem.W.Frag} {mg : Str → Option Value} {base : Heap}
open Classical in
noncomputable def spQContains (CQ : Addr) : Sp := fun vs H Q _ => ∃ (q p x : Addr) (pl : List Key) (r : V) (ks : List KRow) (fs : List FRow) (root : Str) (rows : List St) (ps : List PRow), vs = [.ref q, .ref p] ∧ QBuilt CQ H q x r ks fs root rows ps ∧ (ps.map (·.nm)).Nodup ∧ H p = some (.tup (pl.map kV)) ∧ pl.length ≤ 1000 ∧ ∀ H', Same H H' → Q (.bl (decide (pl ∈ (allItems ks fs ps root rows).map (·.pl)))) H'
open Classical in
theorem ok_q_contains {f f1 CQ : Addr} {fd fd1 : FuncData} (F : Fun K "__contains__" "Question.__contains__" s_Question_contains f fd) (D_is_plain_int : Df K mg "is_plain_int" s_is_plain_int f1 fd1 ["number"]) (T : Nms mg) (L : QT K CQ) : FnOk P w K mg base CX0 2 f fd ["self", "place"] (spQContains CQ) := by
  have G_is_plain_int : FnOk P w K mg base CX0 1 f1 fd1 ["number"] (spPlainInt K) := ok_is_plain_int D_is_plain_int T
  refine F.ok sc_Question_contains (fun vs H Q E h => ?_) (fun cdv A outer s H vs Q E hr h => ?_)
  · obtain ⟨q, p, x, pl, r, ks, fs, root, rows, ps, rfl, _⟩ := h
    rfl
  · obtain ⟨q, p, x, pl, r, ks, fs, root, rows, ps, rfl, Qb, ndp, hp, few, k⟩ := h
    have hu := hu_of hr
    refine ⟨_, (pss_cons (ps_if (pt_not (pt_val (pe_callB call_isi (by rfl) T.n_isinstance (by decide +kernel) (pa_cons (pv 1) (pa_cons (pe_bltn (v := .ty "tuple") (by rfl) T.n_tuple (by decide +kernel) rfl) pa_nil)))))
       (pss_one (ps_ret pe_bl))
       pss_nil)
      (pss_one (ps_ret (pe_and (pe_callB (cr_all rfl) (by rfl) T.n_all (by decide +kernel) (pa_cons (pe_lc (own := [("step", 2)]) (g := (gName 2)) (tt := tYes) rfl sc_Question_contains.nd (pi_tup (pv 1)) (blkOk_by (own := [("step", 2)]) (N := N_Question_contains) (sc := defScope s_Question_contains) (by decide +kernel)) (fun _ _ _ _ _ => (pg_name (i := 2) sc_Question_contains.nd rfl (.inl rfl))) (fun _ _ _ _ _ => pts_nil) (fun _ _ _ _ _ => (pe_or (pe_callB (call_isiK K) (by rfl) T.n_isinstance (by decide +kernel) (pa_cons (pv 2) (pa_cons (pe_bltn (v := .ty "str") (by rfl) T.n_str (by decide +kernel) rfl) pa_nil))) (pe_one (pe_call G_is_plain_int (hr.mono (by decide)) (by rfl) D_is_plain_int.g D_is_plain_int.F.kp D_is_plain_int.b .nil pass0 (pa_cons (pv 2) pa_nil)))))) pa_nil)) (pe_one (pe_cmp (pc_din hu (pv 1) (pe_fld (pv 0) rfl)) rfl)))))), ?_⟩
    refine ⟨.ref p, rfl, _, _, _, _, true, rfl, .ty "tuple", .base (.tup hp), kit_ty (by decide +kernel), true, rfl, iteF ?_⟩
    have hl : (pl.map kV).length = pl.length := List.length_map ..
    refine ⟨.ref p, rfl, p, rfl, ⟨_, .inl (.inl hp)⟩, fun Da nD => ?_⟩
    refine lc_all (walk_tup (xs := pl.map kV)) (fun i y => ∃ kk : Key, y = kV kk) ?_ (fun H s => .inl (.inl (s _ _ hp))) nD (by omega) (fun _ => rfl) ?_ ?_
    · rintro i H2 y H3 hi ⟨rfl, ey⟩
      rw [List.getElem?_map] at ey
      cases e : pl[i]? with
      | none => rw [e] at ey; cases ey
      | some kk => rw [e] at ey; cases ey; exact ⟨rfl, kk, rfl⟩
    · rintro i y H2 Q2 hi ⟨kk, rfl⟩ sm go
      cases kk with
      | inl i => exact ⟨.int i, rfl, _, _, _, _, false, rfl, .ty "str", .base (.int i), kit_ty (by decide +kernel), false, rfl, iteF ⟨.int i, rfl, .int i, rfl, .inl ⟨i, rfl, go _ (Same.refl _)⟩⟩⟩
      | inr z => exact ⟨.str z, rfl, _, _, _, _, true, rfl, .ty "str", .base (.str z), kit_ty (by decide +kernel), true, rfl, iteT (go _ (Same.refl _))⟩
    · intro H2 sm e2
      refine ⟨Da, _, rfl, SqL.of e2, ?_⟩
      rw [all_true]
      obtain ⟨dx, pt, st, es, h1, h2, h3, h4⟩ := Qb
      refine ⟨true, rfl, iteT ⟨.ref p, rfl, .ref q, rfl, q, CQ, dx, _, _, rfl, sm _ _ h1, L.cl, L.n4, lqt .., st, _, rfl, DGet.t (sm _ _ h3) (sm _ _ hp), ?_⟩⟩
      rw [stv_some (all_nd ndp) h4.1]
      exact k _ sm
def spQBaseAt (CQ : Addr) : Sp := fun vs H Q _ => ∃ (q p x : Addr) (i : Itm) (r : V) (ks : List KRow) (fs : List FRow) (root : Str) (rows : List St) (ps : List PRow), vs = [.ref q, .ref p] ∧ QBuilt CQ H q x r ks fs root rows ps ∧ (ps.map (·.nm)).Nodup ∧ i ∈ allItems ks fs ps root rows ∧ H p = some (.tup (i.pl.map kV)) ∧ i.pl.length ≤ 1000 ∧ ∀ H', Same H H' → Q (.str i.z) H'
open Classical in
theorem ok_q_base_at {f f1 CQ : Addr} {fd fd1 : FuncData} (F : Fun K "base_at" "Question.base_at" s_Question_base_at f fd) (mC : InM K CQ f1) (bC : Binds K fd1 ["self", "place"] []) (G_contains : FnOk P w K mg base CX0 2 f1 fd1 ["self", "place"] (spQContains CQ)) (L : QT K CQ) : FnOk P w K mg base CX0 3 f fd ["self", "place"] (spQBaseAt CQ) := by
  refine F.ok sc_Question_base_at (fun vs H Q E h => ?_) (fun cdv A outer s H vs Q E hr h => ?_)
  · obtain ⟨q, p, x, i, r, ks, fs, root, rows, ps, rfl, _⟩ := h
    rfl
  · obtain ⟨q, p, x, i, r, ks, fs, root, rows, ps, rfl, Qb, ndp, mi, hp, few, k⟩ := h
    have hu := hu_of hr
    refine ⟨_, (pss_cons (ps_if (pt_cmpR (op_notIn_own mC G_contains (hr.mono (by decide)) bC .nil pass0) (pv 1) (pv 0) (by rfl))
       (pss_one ps_never)
       pss_nil)
      (pss_one (ps_ret (pe_ix ix_tup (pe_dget hu (pe_fld (pv 0) rfl) (pv 1) (fun _ _ => rfl)) pe_int (fun _ _ => rfl))))), ?_⟩
    have hm : i.pl ∈ (allItems ks fs ps root rows).map (·.pl) := List.mem_map.mpr ⟨i, mi, rfl⟩
    obtain ⟨dx, pt, st, es, h1, h2, h3, h4⟩ := id Qb
    refine ⟨.ref p, rfl, .ref q, rfl, q, dx, _, rfl, h1, q, p, x, i.pl, r, ks, fs, root, rows, ps, rfl, Qb, ndp, hp, few, fun H1 s1 => ⟨_, rfl, _, rfl, ?_⟩⟩
    rw [decide_eq_true hm]
    refine iteF ?_
    obtain ⟨j, hj, ej⟩ := List.getElem_of_mem mi
    have e1 : (allItems ks fs ps root rows)[j]? = some i := by rw [List.getElem?_eq_getElem hj, ej]
    have e2 : es[j]? = some (es[j]'(by have := h4.1; omega)) := List.getElem?_eq_getElem _
    generalize es[j]'(by have := h4.1; omega) = a at e2
    obtain ⟨s, ha, hs⟩ := (h4.tk (Same.tk s1)).2 j i a e1 e2
    refine ⟨.ref q, rfl, q, CQ, dx, _, _, rfl, s1 _ _ h1, L.cl, L.n4, lqt .., .ref p, rfl, st, .ref a, rfl, ?_, a, _, 0, _, rfl, rfl, .inl (.inl ha), atI_nat (j := 0) rfl, k _ s1⟩
    rw [← stv_val (all_nd ndp) h4.1 e1 e2]
    exact DGet.t (s1 _ _ h3) (s1 _ _ hp)
def spQFlags (CQ : Addr) : Sp := fun vs H Q _ => ∃ (q x : Addr) (r : V) (ks : List KRow) (fs : List FRow) (root : Str) (rows : List St) (ps : List PRow), vs = [.ref q] ∧ QBuilt CQ H q x r ks fs root rows ps ∧ (ps.map (·.nm)).Nodup ∧ (allItems ks fs ps root rows).length ≤ 40 ∧
  ∀ ys p H', ys.Nodup → sortedS ys = true → (∀ z, z ∈ ys ↔ z ∈ flsL ((allItems ks fs ps root rows).map (·.t))) → Same H H' → H p = none → H' p = some (.lst (ys.map V.str)) → Q (.ref p) H'
theorem ok_q_flags {f f1 CQ : Addr} {fd fd1 : FuncData} (F : Fun K "flags" "Question.flags" s_Question_flags f fd) (D_flags_of : Df K mg "flags_of" s_flags_of f1 fd1 ["statements"]) (G_flags_of : FnOk P w K mg base CX0 1 f1 fd1 ["statements"] (spFlagsOf K)) (T : Nms mg) (L : QT K CQ) : FnOk P w K mg base CX0 2 f fd ["self"] (spQFlags CQ) := by
  refine F.ok sc_Question_flags (fun vs H Q E h => ?_) (fun cdv A outer s H vs Q E hr h => ?_)
  · obtain ⟨q, x, r, ks, fs, root, rows, ps, rfl, _⟩ := h
    rfl
  · obtain ⟨q, x, r, ks, fs, root, rows, ps, rfl, ⟨dx, pt, st, es, h1, h2, h3, h4⟩, ndp, few, k⟩ := h
    have hu := hu_of hr
    refine ⟨_, (pss_one (ps_ret (pe_call G_flags_of (hr.mono (by decide)) (by rfl) D_flags_of.g D_flags_of.F.kp D_flags_of.b .nil pass0 (pa_cons (pe_lock (pe_lc (own := [("place", 1)]) (g := (gName 1)) (tt := tYes) rfl sc_Question_flags.nd (pi_keys (pe_fld (pv 0) rfl)) (blkOk_by (own := [("place", 1)]) (N := N_Question_flags) (sc := defScope s_Question_flags) (by decide +kernel)) (fun _ _ _ _ _ => (pg_name (i := 1) sc_Question_flags.nd rfl (.inl rfl))) (fun _ _ _ _ _ => pts_nil) (fun _ _ _ _ _ => (pe_ix (ix_tupK K) (pe_dget hu (pe_fldK K (pv 0) rfl) (pv 1) (fun _ _ => rfl)) pe_int (fun _ _ => rfl))))) pa_nil)))), ?_⟩
    have lt : ∀ n : Nat, n ≤ 1000 → n < sizeLine := fun n h => Nat.lt_of_le_of_lt h (by decide)
    have nd := all_nd (ks := ks) (fs := fs) (root := root) (rows := rows) ndp
    generalize allItems ks fs ps root rows = its at few h3 h4 nd k
    have hl : (stv its es).length = its.length := by
      unfold stv
      rw [List.length_map, List.length_zip, h4.1]
      omega
    refine ⟨st, .dT (stv its es), h3, trivial, fun od => ?_⟩
    have kt : Tk H (upd H st (.frz od (.dT (stv its es)))) := Tk.upd h3 (fun _ z => nomatch z)
    have h1' : (upd H st (.frz od (.dT (stv its es)))) q = some (.ins CQ dx (qfs x r pt st)) := by
      rw [upd_ne (ne_of h1 h3 (by intro z; cases z))]
      exact h1
    refine ⟨.ref q, rfl, q, CQ, dx, _, _, rfl, h1', L.cl, L.n4, lqt .., st, od, rfl, .inr ⟨stv its es, upd_same, fun Da nD => ?_⟩⟩
    have nDt : Da ≠ st := fun z => by rw [z, upd_same] at nD; cases nD
    have h4' := h4.tk kt
    have ef : (upd H st (.frz od (.dT (stv its es)))) st = some (.frz od (.dT (stv its es))) := upd_same
    refine lc_it walk_keysT (fun i H' => Same (upd H st (.frz od (.dT (stv its es)))) H' ∧ ∃ ys, H' Da = some (.lst ys) ∧ AllAt (upd H st (.frz od (.dT (stv its es)))) ys ((its.take i).map (·.t))) ⟨same_new nD, [], upd_same, .nil⟩ (fun i H _ p => p.1 _ _ ef) ?_ ?_
    · rintro i y H2 H3 hi ⟨sm, ys, eD, al⟩ ⟨rfl, kk, v, qq, e, rfl, eq⟩
      rw [hl] at hi
      unfold stv at e
      rw [List.getElem?_map] at e
      have e1 : its[i]? = some its[i] := List.getElem?_eq_getElem hi
      have e2 : es[i]? = some (es[i]'(by have := h4.1; omega)) := List.getElem?_eq_getElem _
      generalize its[i] = it at e1
      generalize es[i]'(by have := h4.1; omega) = a at e2
      have ez : (its.zip es)[i]? = some (it, a) := List.getElem?_zip_eq_some.mpr ⟨e1, e2⟩
      rw [ez] at e
      obtain ⟨rfl, rfl⟩ := Prod.mk.inj (Option.some.inj e)
      obtain ⟨s, ha, hs⟩ := h4'.2 i it a e1 e2
      have ly := al.len
      rw [List.length_map, List.length_take] at ly
      refine ⟨rfl, lcT ⟨.ref q, rfl, q, CQ, dx, _, _, rfl, sm _ _ h1', L.cl, L.n4, lqt .., .ref qq, rfl, st, .ref a, rfl, ?_, a, _, 1, _, rfl, rfl, .inl (.inl (sm _ _ ha)), atI_nat (j := 1) rfl, ys, eD, lt _ (by omega), same_upd sm nD, ys ++ [s], upd_same, ?_⟩⟩
      · exact .inr ⟨stv its es, it.pl, qq, .inr ⟨od, sm _ _ ef⟩, rfl, eq, (stv_val nd h4.1 e1 e2).symm⟩
      · rw [takeS e1, List.map_append]
        exact al.snoc hs
    · rintro H2 ⟨sm, ys, eD, al⟩
      rw [hl, List.take_length] at al
      refine ⟨sm _ _ ef, ?_⟩
      have s3 : Same H (upd H2 st (.dT (stv its es))) := same_unlock h3 sm
      have eD3 : (upd H2 st (.dT (stv its es))) Da = some (.lst ys) := by rw [upd_ne nDt]; exact eD
      have k3 : Tk (upd H st (.frz od (.dT (stv its es)))) (upd H2 st (.dT (stv its es))) := (Same.tk sm).trans (Tk.upd (sm _ _ ef) (fun _ z => nomatch z))
      refine ⟨Da, ys, _, rfl, SqL.of eD3, al.tk k3, by rw [List.length_map]; omega, fun zs p4 H5 ndz so me s5 n5 e5 => ?_⟩
      exact k zs p4 H5 ndz so me (s3.trans s5) (s3.free n5) e5
end
end NW
namespace NW
open PySem PySem.Spec PyProof.Rows L2
open TL (tl)
open StX (pa_star)
abbrev s_Lkey : Stmt := topS 85
abbrev N_Lkey : List Str := ["_law_box_here", "_law_plan_here", "_law_at"]
theorem sc_Lkey : FnScope N_Lkey ["_law_box_here", "_law_plan_here", "_law_at"] (defScope s_Lkey) := ⟨rfl, rfl, rfl, by decide +kernel, rfl, by decide +kernel, by decide +kernel⟩
abbrev s_Lheight : Stmt := topS 83
abbrev N_Lheight : List Str := ["_law_rows_here", "_law_highs", "_law_most", "_law_row", "_law_inner"]
theorem sc_Lheight : FnScope N_Lheight ["_law_rows_here", "_law_highs"] (defScope s_Lheight) := ⟨rfl, rfl, rfl, by decide +kernel, rfl, by decide +kernel, by decide +kernel⟩
/-! ### cuts -/
theorem cutS {c : TT} {t u rest : TS} {D : Ends} {σ : L2.St} {H : Hp} (GT GE : L2.St → Hp → Prop) (ht : ∀ σ' H', GT σ' H' → t { D with nx := rest D } σ' H') (he : ∀ σ' H', GE σ' H' → u { D with nx := rest D } σ' H')
    (h : (∀ σ' H', GT σ' H' → t { D with nx := rest D } σ' H') → (∀ σ' H', GE σ' H' → u { D with nx := rest D } σ' H') → tSeq (tIfS c t u) rest D σ H) : tSeq (tIfS c t u) rest D σ H := h ht he
/-! ### a dict with text keys by its entries -/
theorem putK_mid {κ : Type} [DecidableEq κ] {a b : List (κ × V)} {k : κ} {v0 v : V} (ha : k ∉ a.map (·.1)) (hb : k ∉ b.map (·.1)) : putK (a ++ (k, v0) :: b) k v = a ++ (k, v) :: b := by
  have stay : ∀ l : List (κ × V), k ∉ l.map (·.1) → l.map (fun kv => if kv.1 = k then (kv.1, v) else kv) = l := fun l hl => by
    conv => rhs; rw [← List.map_id l]
    exact List.map_congr_left fun x hx => if_neg fun e => hl (List.mem_map.mpr ⟨x, hx, e⟩)
  unfold putK
  rw [if_pos (by rw [List.any_append, List.any_cons]; simp), List.map_append, List.map_cons, stay a ha, stay b hb, if_pos rfl]
theorem putK_end {κ : Type} [DecidableEq κ] {a : List (κ × V)} {k : κ} {v : V} (ha : k ∉ a.map (·.1)) : putK a k v = a ++ [(k, v)] := by
  unfold putK
  rw [if_neg]
  intro h
  obtain ⟨x, hx, e⟩ := List.any_eq_true.mp h
  exact ha (List.mem_map.mpr ⟨x, hx, of_decide_eq_true e⟩)
/-! ### the plan -/
structure Pl where
  q : Addr
  nl : Addr
  pt : Addr
  ht : Addr
  kl : Addr
  fl : Addr
  fr : Bool
abbrev kK (s : Str) : Key := Sum.inr s
theorem nk {z : Str} {l : List Str} (h : z ∉ l) : kK z ∉ l.map kK := fun m => by
  obtain ⟨x, hx, e⟩ := List.mem_map.mp m
  exact h (Sum.inr.inj e ▸ hx)
def plA (p : Pl) : List (Key × V) := [(kK "schema", .ref p.q), (kK "names", .ref p.nl)]
def plB (p : Pl) : List (Key × V) := [(kK "parts", .ref p.pt), (kK "highs", .ref p.ht), (kK "keys", .ref p.kl), (kK "flags", .ref p.fl), (kK "free", .bl p.fr)]
def plK (p : Pl) (rm : Nat) : List (Key × V) := plA p ++ (kK "room", .int (rm : Int)) :: plB p
def plNames : List Key := [kK "schema", kK "names", kK "room", kK "parts", kK "highs", kK "keys", kK "flags", kK "free"]
theorem plNames_nd : plNames.Nodup := by decide +kernel
theorem plK_names (p : Pl) (rm : Nat) : (plK p rm).map (·.1) = plNames := rfl
theorem plK_put (p : Pl) (rm rm' : Nat) : putK (plK p rm) (kK "room") (.int (rm' : Int)) = plK p rm' := putK_mid (nk (z := "room") (l := ["schema", "names"]) (by decide +kernel)) (nk (z := "room") (l := ["parts", "highs", "keys", "flags", "free"]) (by decide +kernel))
section
variable (p : Pl) (rm : Nat)
theorem pl_val {k : Key} {v : V} (m : (k, v) ∈ plK p rm) : some v = valV (plK p rm) k := (valV_nd (by rw [plK_names]; exact plNames_nd) m).symm
theorem pl_schema : some (V.ref p.q) = valV (plK p rm) (kK "schema") := pl_val p rm (.head _)
theorem pl_names : some (V.ref p.nl) = valV (plK p rm) (kK "names") := pl_val p rm (.tail _ (.head _))
theorem pl_room : some (V.int (rm : Int)) = valV (plK p rm) (kK "room") := pl_val p rm (.tail _ (.tail _ (.head _)))
theorem pl_parts : some (V.ref p.pt) = valV (plK p rm) (kK "parts") := pl_val p rm (.tail _ (.tail _ (.tail _ (.head _))))
theorem pl_highs : some (V.ref p.ht) = valV (plK p rm) (kK "highs") := pl_val p rm (.tail _ (.tail _ (.tail _ (.tail _ (.head _)))))
theorem pl_keys : some (V.ref p.kl) = valV (plK p rm) (kK "keys") := pl_val p rm (.tail _ (.tail _ (.tail _ (.tail _ (.tail _ (.head _))))))
theorem pl_flags : some (V.ref p.fl) = valV (plK p rm) (kK "flags") := pl_val p rm (.tail _ (.tail _ (.tail _ (.tail _ (.tail _ (.tail _ (.head _)))))))
theorem pl_free : some (V.bl p.fr) = valV (plK p rm) (kK "free") := pl_val p rm (.tail _ (.tail _ (.tail _ (.tail _ (.tail _ (.tail _ (.tail _ (.head _))))))))
end
/-- all but the box and the plan stands -/
def G2 (b d : Addr) (H H' : Hp) : Prop := ∀ a o, a ≠ b → a ≠ d → H a = some o → H' a = some o
theorem G2.refl {b d : Addr} {H : Hp} : G2 b d H H := fun _ _ _ _ e => e
theorem G2.trans {b d : Addr} {H H1 H2 : Hp} (x : G2 b d H H1) (y : G2 b d H1 H2) : G2 b d H H2 := fun a o n m e => y a o n m (x a o n m e)
theorem Gr.g2 {b d : Addr} {H H' : Hp} (g : Gr b H H') : G2 b d H H' := fun a o n _ e => g a o n e
theorem Gr.g2' {b d : Addr} {H H' : Hp} (g : Gr d H H') : G2 b d H H' := fun a o _ n e => g a o n e
theorem Same.g2 {b d : Addr} {H H' : Hp} (s : Same H H') : G2 b d H H' := fun a o _ _ e => s a o e
theorem G2.free {b d p : Addr} {H H1 : Hp} (x : G2 b d H H1) (nb : p ≠ b) (nd : p ≠ d) (h : H1 p = none) : H p = none := by
  cases q : H p with
  | none => rfl
  | some o => rw [x p o nb nd q] at h; cases h
theorem G2.tk {b d : Addr} {H H' : Hp} {xs : List V} {kvs : List (Key × V)} (hb : H b = some (.lst xs)) (hd : H d = some (.dK kvs)) (g : G2 b d H H') : Tk H H' := fun a ys e => g a _ (ne_of e hb (by intro z; cases z)) (ne_of e hd (by intro z; cases z)) e
/-- the drawn schema, the plan, the box -/
structure PCtx (H : Hp) (b r pd : Addr) (p : Pl) (rm : Nat) (kt ft ut : Addr) (ks : List KRow) (fs : List FRow) (us : List URow) (root : Str) (nm kys fls : List Str) (ps : List PRow) (hp : Str → Nat) : Prop where
  B : Box H b r
  pl : H pd = some (.dK (plK p rm))
  sc : H p.q = some (.tup [.ref kt, .ref ft, .ref ut, .str root])
  at_ : SchAt H kt ft ut ks fs us
  nl : H p.nl = some (.lst (nm.map V.str))
  kl : H p.kl = some (.lst (kys.map V.str))
  fl : H p.fl = some (.lst (fls.map V.str))
  pt : H p.pt = some (.dK (ptv ps))
  ht : H p.ht = some (.dK (htv ps hp))
  n1 : p.nl ≠ b
  n2 : p.kl ≠ b
  n3 : p.fl ≠ b
  d1 : kt ≠ pd
  d2 : ft ≠ pd
  d3 : ut ≠ pd
  d4 : p.pt ≠ pd
  d5 : p.ht ≠ pd
  d6 : (∀ k ∈ ks, k.da ≠ pd) ∧ ∀ f ∈ fs, f.da ≠ pd
theorem PCtx.gr {H H' : Hp} {b r pd : Addr} {p : Pl} {rm : Nat} {kt ft ut : Addr} {ks : List KRow} {fs : List FRow} {us : List URow} {root : Str} {nm kys fls : List Str} {ps : List PRow} {hp : Str → Nat} (c : PCtx H b r pd p rm kt ft ut ks fs us root nm kys fls ps hp) (g : Gr b H H') (B' : Box H' b r) : PCtx H' b r pd p rm kt ft ut ks fs us root nm kys fls ps hp := by
  obtain ⟨xs, e⟩ := c.B.lst
  have hd : ∀ {a : Addr} {kvs : List (Key × V)}, H a = some (.dK kvs) → H' a = some (.dK kvs) := fun h => g _ _ (ne_of h e (by intro z; cases z)) h
  exact ⟨B', hd c.pl, g _ _ (ne_of c.sc e (by intro z; cases z)) c.sc, c.at_.gr (Oth.lst e) g, g _ _ c.n1 c.nl, g _ _ c.n2 c.kl, g _ _ c.n3 c.fl, hd c.pt, hd c.ht, c.n1, c.n2, c.n3, c.d1, c.d2, c.d3, c.d4, c.d5, c.d6⟩
theorem PCtx.same {H H' : Hp} {b r pd : Addr} {p : Pl} {rm : Nat} {kt ft ut : Addr} {ks : List KRow} {fs : List FRow} {us : List URow} {root : Str} {nm kys fls : List Str} {ps : List PRow} {hp : Str → Nat} (c : PCtx H b r pd p rm kt ft ut ks fs us root nm kys fls ps hp) (s : Same H H') : PCtx H' b r pd p rm kt ft ut ks fs us root nm kys fls ps hp := by
  obtain ⟨xs, e⟩ := c.B.lst
  exact c.gr (Same.gr s) (c.B.gr (Same.gr s) (by rw [s _ _ e, e]))
theorem PCtx.t {H : Hp} {b r pd : Addr} {p : Pl} {rm : Nat} {kt ft ut : Addr} {ks : List KRow} {fs : List FRow} {us : List URow} {root : Str} {nm kys fls : List Str} {ps : List PRow} {hp : Str → Nat} (c : PCtx H b r pd p rm kt ft ut ks fs us root nm kys fls ps hp) (ok : SchOk ks fs us root) : SchT H p.q kt ft ut ks fs us root := ⟨c.sc, c.at_, ok⟩
/-- the room changes -/
theorem PCtx.room {H : Hp} {b r pd : Addr} {p : Pl} {rm : Nat} {kt ft ut : Addr} {ks : List KRow} {fs : List FRow} {us : List URow} {root : Str} {nm kys fls : List Str} {ps : List PRow} {hp : Str → Nat} (rm' : Nat) (c : PCtx H b r pd p rm kt ft ut ks fs us root nm kys fls ps hp) : PCtx (upd H pd (.dK (plK p rm'))) b r pd p rm' kt ft ut ks fs us root nm kys fls ps hp := by
  obtain ⟨xs, e⟩ := c.B.lst
  obtain ⟨ys, e2⟩ := c.B.rls
  have npb : pd ≠ b := ne_of c.pl e (by intro z; cases z)
  have npr : pd ≠ r := ne_of c.pl e2 (by intro z; cases z)
  have st : ∀ {a : Addr} {o : HO}, a ≠ pd → H a = some o → (upd H pd (.dK (plK p rm'))) a = some o := fun n h => by rw [upd_ne n]; exact h
  have lst : ∀ {a : Addr} {zs : List V}, H a = some (.lst zs) → (upd H pd (.dK (plK p rm'))) a = some (.lst zs) := fun h => st (ne_of h c.pl (by intro z; cases z)) h
  have tup : ∀ {a : Addr} {zs : List V}, H a = some (.tup zs) → (upd H pd (.dK (plK p rm'))) a = some (.tup zs) := fun h => st (ne_of h c.pl (by intro z; cases z)) h
  refine ⟨c.B.upd npb npr, upd_same, tup c.sc, ⟨st c.d1 c.at_.kd, st c.d2 c.at_.fd, st c.d3 c.at_.ud, fun k m => (c.at_.ka k m).put c.pl (c.d6.1 k m), fun f m => (c.at_.fa f m).put c.pl (c.d6.2 f m), fun u m => tup (c.at_.ua u m)⟩, lst c.nl, lst c.kl, lst c.fl, st c.d4 c.pt, st c.d5 c.ht, c.n1, c.n2, c.n3, c.d1, c.d2, c.d3, c.d4, c.d5, c.d6⟩
structure PFix (ks : List KRow) (fs : List FRow) (us : List URow) (root : Str) (nm kys fls : List Str) (ps : List PRow) : Prop where
  ok : SchOk ks fs us root
  n5 : nm.length ≤ 5
  nc : ∀ k ∈ ks, ∀ f ∈ k.fds, f.1 ∈ nm
  k12 : kys.length = 12
  kn : ∀ z ∈ kys, IsName z
  f3 : fls.length = 3
  fn : ∀ z ∈ fls, IsName z
  p4 : ps.length ≤ 4
  nd : (ps.map (·.nm)).Nodup
  pn : ∀ p ∈ ps, IsName p.nm
section
variable {P : Program} {w : World} {K : PySem.W.Frag} {mg : Str → Option Value} {base : Heap}
def spLkey : Sp := fun vs H Q _ => ∃ (b r pd kl : Addr) (kvs : List (Key × V)) (fr : Bool) (kys : List Str) (i : Nat), vs = [.ref b, .ref pd, .int (i : Int)] ∧ Box H b r ∧ H pd = some (.dK kvs) ∧ some (V.bl fr) = valV kvs (kK "free") ∧ some (V.ref kl) = valV kvs (kK "keys") ∧ H kl = some (.lst (kys.map V.str)) ∧ kl ≠ b ∧ kys.length = 12 ∧ i ≤ 5 ∧
  ∀ z H', z ∈ kys → Gr b H H' → Box H' b r → Q (.str z) H'
theorem ok_Lkey {f f1 : Addr} {fd fd1 : FuncData} (D : Df K mg "_law_key" s_Lkey f fd ["_law_box_here", "_law_plan_here", "_law_at"]) (D_Ldraw : Df K mg "_law_draw" s_Ldraw f1 fd1 ["_law_box_here", "_law_many"]) (T : Nms mg) : FnOk P w K mg base CX0 2 f fd ["_law_box_here", "_law_plan_here", "_law_at"] spLkey := by
  have G_Ldraw : FnOk P w K mg base CX0 1 f1 fd1 ["_law_box_here", "_law_many"] spLdraw := ok_Ldraw D_Ldraw T
  refine D.F.ok sc_Lkey (fun vs H Q E h => ?_) (fun cdv A outer s H vs Q E hr h => ?_)
  · obtain ⟨b, r, pd, kl, kvs, fr, kys, i, rfl, _⟩ := h
    rfl
  · obtain ⟨b, r, pd, kl, kvs, fr, kys, i, rfl, B, hpd, h1, h2, hkl, nkb, k12, i5, q⟩ := h
    have hu := hu_of hr
    refine ⟨_, (pss_cons (ps_if (pt_val (pe_dget hu (pv 1) pe_str (fun _ _ => rfl)))
       (pss_one (ps_ret (pe_ix ix_list (pe_dget hu (pv 1) pe_str (fun _ _ => rfl)) (pe_call G_Ldraw (hr.mono (by decide)) (by rfl) D_Ldraw.g D_Ldraw.F.kp D_Ldraw.b .nil pass0 (pa_cons (pv 0) (pa_cons pe_int pa_nil))) (fun _ _ => rfl))))
       pss_nil)
      (pss_one (ps_ret (pe_ix ix_list (pe_dget hu (pv 1) pe_str (fun _ _ => rfl)) (pe_op op_add (pe_op op_mul pe_int (pv 2)) (pe_call G_Ldraw (hr.mono (by decide)) (by rfl) D_Ldraw.g D_Ldraw.F.kp D_Ldraw.b .nil pass0 (pa_cons (pv 0) (pa_cons pe_int pa_nil)))) (fun _ _ => rfl))))), ?_⟩
    have hkey : ∀ (j : Nat) (H' : Hp), j < 12 → H' kl = some (.lst (kys.map V.str)) → ∃ z, z ∈ kys ∧ atI (kys.map V.str) (j : Int) = some (.str z) := fun j H' hj h => by
      have e : kys[j]? = some (kys[j]'(by omega)) := List.getElem?_eq_getElem _
      exact ⟨_, List.mem_of_getElem? e, atI_nat (by rw [List.getElem?_map, e]; rfl)⟩
    refine ⟨.ref pd, rfl, pd, .bl fr, rfl, .inl ⟨kvs, kK "free", .inl hpd, rfl, h1⟩, fr, rfl, ite2 (fun e => ?_) (fun e => ?_)⟩
    · refine ⟨.ref pd, rfl, pd, .ref kl, rfl, .inl ⟨kvs, kK "keys", .inl hpd, rfl, h2⟩, .ref b, rfl, b, r, 4, rfl, B, by decide, by decide, fun d H1 d0 d1 g1 B1 => ?_⟩
      obtain ⟨d, rfl⟩ := Int.eq_ofNat_of_zero_le d0
      obtain ⟨z, mz, ez⟩ := hkey d H1 (by omega) (g1 _ _ nkb hkl)
      exact ⟨kl, _, _, .str z, rfl, rfl, SqL.of (g1 _ _ nkb hkl), ez, q z H1 mz g1 B1⟩
    · refine ⟨.ref pd, rfl, pd, .ref kl, rfl, .inl ⟨kvs, kK "keys", .inl hpd, rfl, h2⟩, .int i, rfl, 2, (i : Int), rfl, rfl, .inl ⟨by decide, by decide⟩, .ref b, rfl, b, r, 2, rfl, B, by decide, by decide, fun d H1 d0 d1 g1 B1 => ?_⟩
      obtain ⟨d, rfl⟩ := Int.eq_ofNat_of_zero_le d0
      obtain ⟨z, mz, ez⟩ := hkey (2 * i + d) H1 (by omega) (g1 _ _ nkb hkl)
      refine ⟨_, _, rfl, rfl, kl, _, _, .str z, rfl, rfl, SqL.of (g1 _ _ nkb hkl), ?_, q z H1 mz g1 B1⟩
      have : ((2 * i + d : Nat) : Int) = 2 * (i : Int) + (d : Int) := by omega
      rw [← this]
      exact ez
def spLheight (n : Nat) : Sp := fun vs H Q _ => ∃ (r : V) (rows : List St) (hd : Addr) (kvs : List (Key × V)) (D : Str → Prop) (hp : Str → Nat), vs = [r, .ref hd] ∧ RowAt H r rows ∧ lvR rows ≤ n ∧ refR D rows ∧ H hd = some (.dK kvs) ∧ (∀ p, D p → valV kvs (Sum.inr p) = some (.int ((hp p : Nat) : Int))) ∧ Q (.int ((htR hp rows : Nat) : Int)) H
theorem htR_snoc (hp : Str → Nat) : ∀ (l : List St) (t : St), htR hp (l ++ [t]) = max (htR hp l) (htS hp t)
  | [], t => by show max (htS hp t) 0 = max 0 (htS hp t); omega
  | s :: r, t => by
    have ih := htR_snoc hp r t
    show max (htS hp s) (htR hp (r ++ [t])) = max (max (htS hp s) (htR hp r)) (htS hp t)
    rw [ih]
    omega
theorem ok_Lheight {f : Addr} {fd : FuncData} (D : Df K mg "_law_height" s_Lheight f fd ["_law_rows_here", "_law_highs"]) (T : Nms mg) (hmax : mg "max" = none) : ∀ n : Nat, FnOk P w K mg base CX0 (n + 1) f fd ["_law_rows_here", "_law_highs"] (spLheight n) := by
  intro n
  induction n with
  | zero =>
    refine D.F.ok sc_Lheight (fun vs H Q E h => ?_) (fun cdv A outer s H vs Q E hr h => ?_)
    · obtain ⟨r, rows, hd, kvs, D, hp, rfl, _⟩ := h
      rfl
    · obtain ⟨r, rows, hd, kvs, DD, hp, rfl, hrow, lv, rf, hhd, hv, q⟩ := h
      refine ⟨_, (pss_cons (ps_set (i := 2) sc_Lheight.nd rfl (.inl rfl) pe_int)
      (pss_cons (ps_for PassesOwn.never rfl (pi_tup (pv 0)) (pg_name (i := 3) sc_Lheight.nd rfl (.inl rfl))
       (pss_cons ps_never (pss_cons ps_never (pss_one ps_never))))
      (pss_one (ps_ret (pv 2))))), ?_⟩
      have hr0 : rows = [] := by
        cases rows with
        | nil => rfl
        | cons t r =>
          have h1 := lvR_mem (t := t) (rows := t :: r) List.mem_cons_self
          have := lvS_pos t
          omega
      subst hr0
      obtain ⟨a, xs, rfl, ha, al⟩ := hrow.tup
      have hx : xs = [] := List.eq_nil_of_length_eq_zero al.len
      subst hx
      refine ⟨.ref a, rfl, a, rfl, ⟨_, .inl (.inl ha)⟩, for_it (walk_tup (xs := [])) (fun i σ H' => σ = [some (.ref a), some (.ref hd), some (.int 0), none, none] ∧ H' = H) ⟨rfl, rfl⟩ ?_ ?_ ?_⟩
      · rintro i σ H' _ ⟨_, rfl⟩
        exact .inl (.inl ha)
      · intro i x σ H1 H2 hi
        exact absurd hi (Nat.not_lt_zero _)
      · rintro σ H' ⟨rfl, rfl⟩
        exact ⟨.int 0, rfl, q⟩
  | succ n ih =>
    refine D.F.ok sc_Lheight (fun vs H Q E h => ?_) (fun cdv A outer s H vs Q E hr h => ?_)
    · obtain ⟨r, rows, hd, kvs, D, hp, rfl, _⟩ := h
      rfl
    · obtain ⟨r, rows, hd, kvs, DD, hp, rfl, hrow, lv, rf, hhd, hv, q⟩ := h
      have hu := hu_of hr
      refine ⟨_, (pss_cons (ps_set (i := 2) sc_Lheight.nd rfl (.inl rfl) pe_int)
        (pss_cons (ps_for PassesOwn.never rfl (pi_tup (pv 0)) (pg_name (i := 3) sc_Lheight.nd rfl (.inl rfl))
         (pss_cons (ps_set (i := 4) sc_Lheight.nd rfl (.inl rfl) pe_int)
          (pss_cons (ps_if (pt_cmpR op_eq (pe_ix ix_tup (pv 3) pe_int (fun _ _ => rfl)) pe_str (nomark _))
           (pss_one (ps_set (i := 4) sc_Lheight.nd rfl (.inl rfl) (pe_dget hu (pv 1) (pe_ix ix_tup (pv 3) pe_int (fun _ _ => rfl)) (fun _ _ => rfl))))
           (pss_one (ps_if (pt_cmpR op_ne (pe_ix ix_tup (pv 3) pe_int (fun _ _ => rfl)) pe_str (nomark _))
             (pss_one (ps_set (i := 4) sc_Lheight.nd rfl (.inl rfl) (pe_call ih (hr.mono (by omega)) (by rfl) D.g D.F.kp D.b .nil pass0 (pa_cons (pe_ix ix_tup (pv 3) (pe_un un_neg pe_int) (fun _ _ => rfl)) (pa_cons (pv 1) pa_nil)))))
             pss_nil)))
          (pss_one (ps_set (i := 2) sc_Lheight.nd rfl (.inl rfl) (pe_callB (call_max2 rfl) (by rfl) hmax (by decide +kernel) (pa_cons (pv 2) (pa_cons (pe_op op_add pe_int (pv 4)) pa_nil))))))))
        (pss_one (ps_ret (pv 2))))), ?_⟩
      obtain ⟨a, xs, rfl, ha, al⟩ := hrow.tup
      have lx := al.len
      refine ⟨.ref a, rfl, a, rfl, ⟨_, .inl (.inl ha)⟩, for_it (walk_tup (xs := xs)) (fun i σ H' => ∃ y3 y4 : Option V, σ = [some (.ref a), some (.ref hd), some (.int ((htR hp (rows.take i) : Nat) : Int)), y3, y4] ∧ H' = H) ⟨none, none, rfl, rfl⟩ ?_ ?_ ?_⟩
      · rintro i σ H' _ ⟨_, _, _, rfl⟩
        exact .inl (.inl ha)
      · rintro i y σ H1 H2 hi ⟨y3, y4, rfl, rfl⟩ ⟨rfl, ey⟩
        obtain ⟨t, et, ht⟩ := al.at ey
        have mt := List.mem_of_getElem? et
        have fin : ∀ (m : Int), m = ((htS hp t : Nat) : Int) → (if m > ((htR hp (rows.take i) : Nat) : Int) then m else ((htR hp (rows.take i) : Nat) : Int)) = ((htR hp (rows.take (i + 1)) : Nat) : Int) := fun m e => by
          rw [takeS et, htR_snoc, e]
          split <;> omega
        have step : ∀ (m : Int), 1 + m = ((htS hp t : Nat) : Int) → ∃ y3 y4' : Option V, [some (.ref a), some (.ref hd), some (.int (if 1 + m > ((htR hp (rows.take i) : Nat) : Int) then 1 + m else ((htR hp (rows.take i) : Nat) : Int))), some y, some (.int m)] = [some (.ref a), some (.ref hd), some (V.int ((htR hp (rows.take (i + 1)) : Nat) : Int)), y3, y4'] ∧ H2 = H2 := fun m e => ⟨_, _, by rw [fin _ e], rfl⟩
        obtain ⟨b, zs, rfl, hb, z0, z1⟩ := ht.hd
        dsimp only
        refine gNm ?_
        by_cases hw : wd t = "part"
        · obtain ⟨p, rfl⟩ : ∃ p, t = .part p := by
            cases t with
            | part p => exact ⟨p, rfl⟩
            | field f k r => exact absurd hw (show ¬ ("field" : Str) = "part" by decide +kernel)
            | kind k => exact absurd hw (show ¬ ("kind" : Str) = "part" by decide +kernel)
            | on z r => exact absurd hw (show ¬ ("on" : Str) = "part" by decide +kernel)
            | iff z b r => exact absurd hw (show ¬ ("if" : Str) = "part" by decide +kernel)
          have rp : DD p := refR_mem rf mt
          refine ⟨.ref b, rfl, b, zs, 0, _, rfl, rfl, .inl (.inl hb), atI_nat (j := 0) z0, rfl, true, blT rfl, iteT ⟨.ref hd, rfl, .ref b, rfl, b, zs, 1, _, rfl, rfl, .inl (.inl hb), atI_nat (j := 1) z1, hd, _, rfl, .inl ⟨kvs, .inr p, .inl hhd, rfl, (hv p rp).symm⟩, .int _, rfl, .int _, rfl, _, _, rfl, rfl, _, _, rfl, step _ ?_⟩⟩
          show 1 + ((hp p : Nat) : Int) = ((1 + hp p : Nat) : Int)
          omega
        · have hs : htS hp t = 1 + htR hp t.rows := htS_rows hp hw
          refine ⟨.ref b, rfl, b, zs, 0, _, rfl, rfl, .inl (.inl hb), atI_nat (j := 0) z0, rfl, false, blF (fun e => hw (V.str.inj e)), iteF ?_⟩
          by_cases hk : wd t = "kind"
          · obtain ⟨k, rfl⟩ : ∃ k, t = .kind k := by
              cases t with
              | kind k => exact ⟨k, rfl⟩
              | field f k r => exact absurd hk (show ¬ ("field" : Str) = "kind" by decide +kernel)
              | part k => exact absurd rfl hw
              | on z r => exact absurd hk (show ¬ ("on" : Str) = "kind" by decide +kernel)
              | iff z b r => exact absurd hk (show ¬ ("if" : Str) = "kind" by decide +kernel)
            exact ⟨.ref b, rfl, b, zs, 0, _, rfl, rfl, .inl (.inl hb), atI_nat (j := 0) z0, rfl, false, blNF rfl, iteF ⟨.int _, rfl, .int 0, rfl, _, _, rfl, rfl, _, _, rfl, step 0 rfl⟩⟩
          · have hin : ∃ v, atI zs (-1) = some v ∧ RowAt H2 v t.rows := by
              cases ht with
              | field e r => rw [e] at hb; cases hb; exact ⟨_, rfl, r⟩
              | kind e => exact absurd rfl hk
              | on e r => rw [e] at hb; cases hb; exact ⟨_, rfl, r⟩
              | part e => exact absurd rfl hw
              | iff e r => rw [e] at hb; cases hb; exact ⟨_, rfl, r⟩
            obtain ⟨v, ev, hv'⟩ := hin
            have lt := lvR_mem mt
            rw [lvS_rows] at lt
            refine ⟨.ref b, rfl, b, zs, 0, _, rfl, rfl, .inl (.inl hb), atI_nat (j := 0) z0, rfl, true, blNT (fun e => hk (V.str.inj e)), iteT ⟨.ref b, rfl, 1, rfl, b, zs, -1, v, rfl, rfl, .inl (.inl hb), ev, .ref hd, rfl, v, t.rows, hd, kvs, DD, hp, rfl, hv', by omega, refS_rows (refR_mem rf mt), hhd, hv, .int _, rfl, .int _, rfl, _, _, rfl, rfl, _, _, rfl, step _ ?_⟩⟩
            rw [hs]
            omega
      · rintro σ H' ⟨y3, y4, rfl, rfl⟩
        rw [lx, List.take_length]
        exact ⟨.int _, rfl, q⟩
end
end NW
namespace NW
open PySem PySem.Spec PyProof.Rows L2
open TL (tl)
open StX (pa_star)
abbrev s_Lflags : Stmt := topS 87
abbrev N_Lflags : List Str := ["_law_rows_here", "_law_parts", "_law_found", "_law_row", "_law_word"]
theorem sc_Lflags : FnScope N_Lflags ["_law_rows_here", "_law_parts"] (defScope s_Lflags) := ⟨rfl, rfl, rfl, by decide +kernel, rfl, by decide +kernel, by decide +kernel⟩
/-! ### flags and sizes of rows -/
mutual
def flgS : St → List Str
  | .field _ _ r => flgR r
  | .kind _ => []
  | .on _ r => flgR r
  | .part _ => []
  | .iff f _ r => f :: flgR r
def flgR : List St → List Str
  | [] => []
  | s :: r => flgS s ++ flgR r
end
mutual
def szS : St → Nat
  | .field _ _ r => 1 + szR r
  | .kind _ => 1
  | .on _ r => 1 + szR r
  | .part _ => 1
  | .iff _ _ r => 1 + szR r
def szR : List St → Nat
  | [] => 0
  | s :: r => szS s + szR r
end
theorem wd_kind {t : St} (h : wd t = "kind") : t.rows = [] := by
  cases t with
  | kind k => rfl
  | part k => rfl
  | field f k r => exact absurd h (show ¬ ("field" : Str) = "kind" by decide +kernel)
  | on z r => exact absurd h (show ¬ ("on" : Str) = "kind" by decide +kernel)
  | iff z b r => exact absurd h (show ¬ ("if" : Str) = "kind" by decide +kernel)
theorem wd_part {t : St} (h : wd t = "part") : t.rows = [] := by
  cases t with
  | kind k => rfl
  | part k => rfl
  | field f k r => exact absurd h (show ¬ ("field" : Str) = "part" by decide +kernel)
  | on z r => exact absurd h (show ¬ ("on" : Str) = "part" by decide +kernel)
  | iff z b r => exact absurd h (show ¬ ("if" : Str) = "part" by decide +kernel)
theorem flgS_rows (t : St) : flgS t = (flS t).toList ++ flgR t.rows := by cases t <;> rfl
theorem szS_rows (t : St) : szS t = 1 + szR t.rows := by cases t <;> rfl
theorem flgR_app : ∀ a b : List St, flgR (a ++ b) = flgR a ++ flgR b
  | [], _ => rfl
  | s :: r, b => by
    show flgS s ++ flgR (r ++ b) = (flgS s ++ flgR r) ++ flgR b
    rw [flgR_app r b, List.append_assoc]
theorem szR_app : ∀ a b : List St, szR (a ++ b) = szR a + szR b
  | [], b => by show szR b = 0 + szR b; omega
  | s :: r, b => by
    show szS s + szR (r ++ b) = (szS s + szR r) + szR b
    rw [szR_app r b]
    omega
theorem szR_take {rows : List St} {i : Nat} : szR (rows.take i) ≤ szR rows := by
  have := congrArg szR (List.take_append_drop i rows)
  rw [szR_app] at this
  omega
theorem szR_len : ∀ rows : List St, rows.length ≤ szR rows
  | [] => Nat.zero_le _
  | t :: r => by
    have := szR_len r
    show r.length + 1 ≤ szS t + szR r
    rw [szS_rows]
    omega
theorem szR_one (t : St) : szR [t] = szS t := by show szS t + 0 = szS t; omega
theorem flgR_one (t : St) : flgR [t] = flgS t := by show flgS t ++ [] = flgS t; rw [List.append_nil]
/-- the size of a part, by its name -/
def psz (ps : List PRow) (n : Str) : Nat := match ps.find? fun p => decide (p.nm = n) with | some p => szR p.rows | none => 0
theorem psz_of {ps : List PRow} (nd : (ps.map (·.nm)).Nodup) {p : PRow} (m : p ∈ ps) : psz ps p.nm = szR p.rows := by
  unfold psz
  rw [find_is (f := fun p : PRow => p.nm) nd m]
theorem sum_take (f : Str → Nat) : ∀ (l : List Str) (j : Nat), ((l.take j).map f).sum ≤ (l.map f).sum
  | [], j => by simp
  | a :: l, 0 => by simp
  | a :: l, j + 1 => by
    have := sum_take f l j
    simp only [List.take_succ_cons, List.map_cons, List.sum_cons]
    omega
theorem sum_perm (f : Str → Nat) {l m : List Str} (p : l.Perm m) : (l.map f).sum = (m.map f).sum := by
  induction p with
  | nil => rfl
  | cons x _ ih => simp only [List.map_cons, List.sum_cons, ih]
  | swap x y l => simp only [List.map_cons, List.sum_cons]; omega
  | trans _ _ h1 h2 => rw [h1, h2]
section
variable {P : Program} {w : World} {K : PySem.W.Frag} {mg : Str → Option Value} {base : Heap}
def spLflags (n : Nat) : Sp := fun vs H Q _ => ∃ (r : V) (rows : List St) (pd : Addr) (ps : List PRow), vs = [r, .ref pd] ∧ RowAt H r rows ∧ lvR rows ≤ n ∧ H pd = some (.dK (ptv ps)) ∧ (∀ p ∈ ps, p.At H ∧ lvR p.rows + 1 ≤ n) ∧ (ps.map (·.nm)).Nodup ∧ szR rows + ((ps.map (·.nm)).map (psz ps)).sum < 64 ∧ ps.length ≤ 30 ∧
  ∀ ys p H', ys.Nodup → sortedS ys = true → (∀ z, z ∈ ys ↔ z ∈ flgR rows ∨ ∃ q ∈ ps, z ∈ flgR q.rows) → ys.length ≤ szR rows + ((ps.map (·.nm)).map (psz ps)).sum → Same H H' → H p = none → H' p = some (.lst (ys.map V.str)) → Q (.ref p) H'
theorem ok_Lflags {f : Addr} {fd : FuncData} (D : Df K mg "_law_flags" s_Lflags f fd ["_law_rows_here", "_law_parts"]) (T : Nms mg) : ∀ n : Nat, FnOk P w K mg base CX0 (n + 1) f fd ["_law_rows_here", "_law_parts"] (spLflags n) := by
  -- one def for both: what the level below gives
  have main : ∀ (n : Nat) (ih : n ≠ 0 → FnOk P w K mg base CX0 n f fd ["_law_rows_here", "_law_parts"] (spLflags (n - 1))), FnOk P w K mg base CX0 (n + 1) f fd ["_law_rows_here", "_law_parts"] (spLflags n) := by
    intro n ih0
    cases n with
    | zero =>
      refine D.F.ok sc_Lflags (fun vs H Q E h => ?_) (fun cdv A outer s H vs Q E hr h => ?_)
      · obtain ⟨r, rows, pd, ps, rfl, _⟩ := h
        rfl
      · obtain ⟨r, rows, pd, ps, rfl, hrow, lv, hpd, hat, nd, sm, n30, q⟩ := h
        have hu := hu_of hr
        refine ⟨_, (pss_cons (ps_set (i := 2) sc_Lflags.nd rfl (.inl rfl) (pe_lst pa_nil))
      (pss_cons (ps_for PassesOwn.never rfl (pi_tup (pv 0)) (pg_name (i := 3) sc_Lflags.nd rfl (.inl rfl))
       (pss_cons ps_never (pss_one ps_never)))
      (pss_cons (ps_for PassesOwn.never rfl (pi_list (pe_callB (call_sortedD rfl) (by rfl) T.n_sorted (by decide +kernel) (pa_cons (pv 1) pa_nil))) (pg_name (i := 4) sc_Lflags.nd rfl (.inl rfl))
       (pss_one ps_never))
      (pss_one (ps_ret (pe_callB (cr_sortTxP P w rfl) (by rfl) T.n_sorted (by decide +kernel) (pa_cons (pe_callTy (cr_setTxP P w K rfl) (by rfl) T.n_set (by decide +kernel) (pa_cons (pv 2) pa_nil)) pa_nil))))))), ?_⟩
        have hS : ∀ n : Nat, n ≤ 1000 → n ≤ sizeLine := fun n h => Nat.le_trans h (by decide)
        have hr0 : rows = [] := by
          cases rows with
          | nil => rfl
          | cons t r =>
            have h1 := lvR_mem (t := t) (rows := t :: r) List.mem_cons_self
            have := lvS_pos t
            omega
        subst hr0
        have hps : ps = [] := by
          cases ps with
          | nil => rfl
          | cons p r => have := (hat p List.mem_cons_self).2; omega
        subst hps
        obtain ⟨a, xs, rfl, ha, al⟩ := hrow.tup
        have hx : xs = [] := List.eq_nil_of_length_eq_zero al.len
        subst hx
        refine ⟨hS 0 (by decide), fun pf npf => ?_⟩
        have s0 := same_new (o := .lst []) npf
        have e0 : (upd H pf (.lst [])) pf = some (.lst []) := upd_same
        generalize upd H pf (.lst []) = H0 at s0 e0
        refine ⟨.ref a, rfl, a, rfl, ⟨_, .inl (.inl (s0 _ _ ha))⟩, for_it (walk_tup (xs := [])) (fun i σ H' => σ = [some (.ref a), some (.ref pd), some (.ref pf), none, none] ∧ H' = H0) ⟨rfl, rfl⟩ ?_ ?_ ?_⟩
        · rintro i σ H' _ ⟨_, rfl⟩
          exact .inl (.inl (s0 _ _ ha))
        · intro i x σ H1 H2 hi
          exact absurd hi (Nat.not_lt_zero _)
        rintro σ H' ⟨rfl, rfl⟩
        refine ⟨.ref pd, rfl, pd, ptv [], [], rfl, .inl (s0 _ _ hpd), rfl, by decide, fun ns p1 pm so np1 => ?_⟩
        have hns : ns = [] := pm.eq_nil
        subst hns
        have s1 := same_new (o := .lst (([] : List Str).map V.str)) np1
        have e1 : (upd H' p1 (.lst (([] : List Str).map V.str))) p1 = some (.lst []) := upd_same
        have e01 := s1 _ _ e0
        generalize upd H' p1 (.lst (([] : List Str).map V.str)) = H1 at s1 e1 e01
        refine ⟨p1, rfl, ⟨_, SqL.of e1⟩, for_list (xs := []) (fun i σ H' => σ = [some (.ref a), some (.ref pd), some (.ref pf), none, none] ∧ H' = H1) ⟨rfl, rfl⟩ ?_ ?_ ?_⟩
        · rintro i σ H' _ ⟨_, rfl⟩
          exact SqL.of e1
        · intro i x σ H1 ex
          simp at ex
        rintro σ H2 ⟨rfl, rfl⟩
        refine ⟨.ref pf, rfl, pf, [], rfl, SqL.of e01, by decide, fun p m np hm => ⟨p, _, m, rfl, upd_same, by have : m ≤ 0 := hm; omega, fun ys p2 nd2 so2 me np2 => ?_⟩⟩
        have s3 := (s0.trans s1).trans (same_new (o := TxO P w p (fun z => decide (z ∈ ([] : List Str))) m) np)
        have hy : ys = [] := List.eq_nil_iff_forall_not_mem.mpr fun z mz => by
          have := (me z).mp mz
          simp at this
        refine q ys p2 _ nd2 so2 (fun z => ?_) (by rw [hy]; exact Nat.zero_le _) (s3.trans (same_new np2)) (s3.free np2) upd_same
        rw [hy]
        exact ⟨(fun m => nomatch m), (fun m => m.elim (fun m => nomatch m) (fun ⟨_, m, _⟩ => nomatch m))⟩
    | succ n =>
      have ih := ih0 (Nat.succ_ne_zero n)
      rw [Nat.add_sub_cancel] at ih
      refine D.F.ok sc_Lflags (fun vs H Q E h => ?_) (fun cdv A outer s H vs Q E hr h => ?_)
      · obtain ⟨r, rows, pd, ps, rfl, _⟩ := h
        rfl
      · obtain ⟨r, rows, pd, ps, rfl, hrow, lv, hpd, hat, nd, sm, n30, q⟩ := h
        have hu := hu_of hr
        refine ⟨_, (pss_cons (ps_set (i := 2) sc_Lflags.nd rfl (.inl rfl) (pe_lst pa_nil))
          (pss_cons (ps_for PassesOwn.never rfl (pi_tup (pv 0)) (pg_name (i := 3) sc_Lflags.nd rfl (.inl rfl))
           (pss_cons (ps_if (pt_cmpR op_eq (pe_ix ix_tup (pv 3) pe_int (fun _ _ => rfl)) pe_str (nomark _))
             (pss_one (ps_expr (pe_bm PySem.F.plainAttrs_list PySem.F.slot_list_append PySem.F.type_list_append mt_append (pv 2) (pa_cons (pe_ix ix_tup (pv 3) pe_int (fun _ _ => rfl)) pa_nil))))
             pss_nil)
            (pss_one (ps_if (PW.pt (pw_and (pt_cmpR op_ne (pe_ix ix_tup (pv 3) pe_int (fun _ _ => rfl)) pe_str (nomark _)) (pw_and1 (pt_cmpR op_ne (pe_ix ix_tup (pv 3) pe_int (fun _ _ => rfl)) pe_str (nomark _)))))
             (pss_one (ps_set (i := 2) sc_Lflags.nd rfl (.inl rfl) (pe_op op_cat (pv 2) (pe_call ih (hr.mono (by omega)) (by rfl) D.g D.F.kp D.b .nil pass0 (pa_cons (pe_ix ix_tup (pv 3) (pe_un un_neg pe_int) (fun _ _ => rfl)) (pa_cons pe_dnewK pa_nil))))))
             pss_nil))))
          (pss_cons (ps_for PassesOwn.never rfl (pi_list (pe_callB (call_sortedD rfl) (by rfl) T.n_sorted (by decide +kernel) (pa_cons (pv 1) pa_nil))) (pg_name (i := 4) sc_Lflags.nd rfl (.inl rfl))
           (pss_one (ps_set (i := 2) sc_Lflags.nd rfl (.inl rfl) (pe_op op_cat (pv 2) (pe_call ih (hr.mono (by omega)) (by rfl) D.g D.F.kp D.b .nil pass0 (pa_cons (pe_ix ix_tup (pe_dget hu (pv 1) (pv 4) (fun _ _ => rfl)) pe_int (fun _ _ => rfl)) (pa_cons pe_dnewK pa_nil)))))))
          (pss_one (ps_ret (pe_callB (cr_sortTxP P w rfl) (by rfl) T.n_sorted (by decide +kernel) (pa_cons (pe_callTy (cr_setTxP P w K rfl) (by rfl) T.n_set (by decide +kernel) (pa_cons (pv 2) pa_nil)) pa_nil))))))), ?_⟩
        have hS : ∀ n : Nat, n ≤ 1000 → n ≤ sizeLine := fun n h => Nat.le_trans h (by decide)
        have lt : ∀ n : Nat, n ≤ 1000 → n < sizeLine := fun n h => Nat.lt_of_le_of_lt h (by decide)
        obtain ⟨a, xs, rfl, ha, al⟩ := hrow.tup
        have lx := al.len
        have lr : rows.length ≤ szR rows := by
          exact szR_len rows
        refine ⟨hS 0 (by decide), fun pf npf => ?_⟩
        have s0 := same_new (o := .lst []) npf
        have e0 : (upd H pf (.lst [])) pf = some (.lst []) := upd_same
        generalize upd H pf (.lst []) = H0 at s0 e0
        refine ⟨.ref a, rfl, a, rfl, ⟨_, .inl (.inl (s0 _ _ ha))⟩, for_it (walk_tup (xs := xs)) (fun i σ H' => ∃ (pf : Addr) (l : List Str) (y3 : Option V), σ = [some (.ref a), some (.ref pd), some (.ref pf), y3, none] ∧ Same H H' ∧ H pf = none ∧ H' pf = some (.lst (l.map V.str)) ∧ (∀ z, z ∈ l ↔ z ∈ flgR (rows.take i)) ∧ l.length ≤ szR (rows.take i)) ⟨pf, [], none, rfl, s0, npf, e0, fun z => by simp [flgR], Nat.zero_le _⟩ ?_ ?_ ?_⟩
        · rintro i σ H' _ ⟨_, _, _, _, s, _⟩
          exact .inl (.inl (s _ _ ha))
        · rintro i y σ H1 H2 hi ⟨pf, l, y3, rfl, s1, npf, epf, hm, hl⟩ ⟨rfl, ey⟩
          obtain ⟨t, et, ht0⟩ := al.at ey
          have mt := List.mem_of_getElem? et
          have ht := ht0.same s1
          have hsz : szR (rows.take i) + szS t ≤ szR rows := by
            have := szR_take (rows := rows) (i := i + 1)
            rw [takeS et, szR_app, szR_one] at this
            exact this
          have efl : flgR (rows.take (i + 1)) = flgR (rows.take i) ++ ((flS t).toList ++ flgR t.rows) := by rw [takeS et, flgR_app, flgR_one, flgS_rows]
          have esz : szR (rows.take (i + 1)) = szR (rows.take i) + (1 + szR t.rows) := by rw [takeS et, szR_app, szR_one, szS_rows]
          rw [szS_rows] at hsz
          have lvt := lvR_mem mt
          rw [lvS_rows] at lvt
          obtain ⟨b, zs, rfl, hb, z0, z1⟩ := ht.hd
          dsimp only
          refine gNm ?_
          refine cut1 (fun σ' H3 => ∃ l3 : List Str, σ' = [some (.ref a), some (.ref pd), some (.ref pf), some (.ref b), none] ∧ Same H H3 ∧ H3 pf = some (.lst (l3.map V.str)) ∧ (∀ z, z ∈ l3 ↔ z ∈ flgR (rows.take i) ∨ flS t = some z) ∧ l3.length ≤ szR (rows.take i) + 1 ∧ H3 b = some (.tup zs) ∧ StAt H3 (.ref b) t) ?_ ?_
          · rintro σ' H3 ⟨l3, rfl, s3, e3, m3, n3, hb3, ht3⟩
            have skip : t.rows = [] → ∃ (pf' : Addr) (l' : List Str) (y3' : Option V), [some (.ref a), some (.ref pd), some (.ref pf), some (.ref b), none] = [some (.ref a), some (.ref pd), some (V.ref pf'), y3', none] ∧ Same H H3 ∧ H pf' = none ∧ H3 pf' = some (.lst (l'.map V.str)) ∧ (∀ z, z ∈ l' ↔ z ∈ flgR (rows.take (i + 1))) ∧ l'.length ≤ szR (rows.take (i + 1)) := fun e => by
              refine ⟨pf, l3, _, rfl, s3, npf, e3, fun z => ?_, by rw [esz]; omega⟩
              rw [efl, m3 z, e]
              simp [flgR, Option.mem_toList, eq_comm]
            by_cases hk : wd t = "kind"
            · exact ⟨.ref b, rfl, b, zs, 0, _, rfl, rfl, .inl (.inl hb3), atI_nat (j := 0) z0, rfl, false, blNF (by rw [hk]), iteF (skip (wd_kind hk))⟩
            by_cases hp : wd t = "part"
            · exact ⟨.ref b, rfl, b, zs, 0, _, rfl, rfl, .inl (.inl hb3), atI_nat (j := 0) z0, rfl, true, blNT (fun e => hk (V.str.inj e)), iteT ⟨.ref b, rfl, b, zs, 0, _, rfl, rfl, .inl (.inl hb3), atI_nat (j := 0) z0, rfl, false, blNF (by rw [hp]), iteF (skip (wd_part hp))⟩⟩
            have hin : ∃ v, atI zs (-1) = some v ∧ RowAt H3 v t.rows := by
              cases ht3 with
              | field e r => rw [e] at hb3; cases hb3; exact ⟨_, rfl, r⟩
              | kind e => exact absurd rfl hk
              | on e r => rw [e] at hb3; cases hb3; exact ⟨_, rfl, r⟩
              | part e => exact absurd rfl hp
              | iff e r => rw [e] at hb3; cases hb3; exact ⟨_, rfl, r⟩
            obtain ⟨v, ev, hv'⟩ := hin
            refine ⟨.ref b, rfl, b, zs, 0, _, rfl, rfl, .inl (.inl hb3), atI_nat (j := 0) z0, rfl, true, blNT (fun e => hk (V.str.inj e)), iteT ⟨.ref b, rfl, b, zs, 0, _, rfl, rfl, .inl (.inl hb3), atI_nat (j := 0) z0, rfl, true, blNT (fun e => hp (V.str.inj e)), iteT ?_⟩⟩
            refine ⟨.ref pf, rfl, .ref b, rfl, 1, rfl, b, zs, -1, v, rfl, rfl, .inl (.inl hb3), ev, fun de nde => ?_⟩
            have s4 := same_new (o := .dK []) nde
            refine ⟨v, t.rows, de, [], rfl, hv'.same s4, by omega, upd_same, (fun p m => nomatch m), List.nodup_nil, by show szR t.rows + 0 < 64; omega, by decide, fun ys p2 H5 ndy soy mey ly s5 np2 e5 => ?_⟩
            have e35 := (s4.trans s5) _ _ e3
            have ly' : ys.length ≤ szR t.rows := by
              have : ys.length ≤ szR t.rows + 0 := ly
              omega
            refine ⟨pf, p2, _, _, rfl, rfl, e35, e5, hS _ (by rw [List.length_map, List.length_map]; omega), fun p3 np3 => ?_⟩
            have s35 := s3.trans (s4.trans s5)
            refine ⟨p3, l3 ++ ys, _, rfl, s35.trans (same_new np3), s35.free np3, by rw [upd_same, List.map_append], fun z => ?_, by rw [List.length_append, esz]; omega⟩
            rw [List.mem_append, m3 z, mey z, efl, List.mem_append, List.mem_append]
            constructor
            · rintro ((h | h) | (h | ⟨_, h, _⟩))
              · exact .inl h
              · exact .inr (.inl (by rw [h]; simp))
              · exact .inr (.inr h)
              · cases h
            · rintro (h | (h | h))
              · exact .inl (.inl h)
              · exact .inl (.inr (by simpa [Option.mem_toList, eq_comm] using h))
              · exact .inr (.inl h)
          · intro rest
            rcases wd_if t with ⟨w1, f1⟩ | ⟨w1, f1⟩
            · have k5 : Tk H2 (upd H2 pf (.lst (l.map V.str ++ [.str (arg t)]))) := Tk.upd epf (fun _ z => nomatch z)
              refine ⟨.ref b, rfl, b, zs, 0, _, rfl, rfl, .inl (.inl hb), atI_nat (j := 0) z0, rfl, true, blT (by rw [w1]), iteT ⟨.ref pf, rfl, .inl ⟨rfl, _, SqL.of epf⟩, .ref b, rfl, b, zs, 1, _, rfl, rfl, .inl (.inl hb), atI_nat (j := 1) z1, pf, _, _, rfl, rfl, epf, lt _ (by rw [List.length_map]; omega), rest _ _ ⟨l ++ [arg t], rfl, same_upd s1 npf, by rw [upd_same, List.map_append]; rfl, fun z => ?_, by rw [List.length_append]; show l.length + 1 ≤ _; omega, k5 _ _ hb, ht.tk k5⟩⟩⟩
              rw [List.mem_append, hm z, f1, List.mem_singleton]
              exact ⟨fun h => h.imp id fun e => by rw [e], fun h => h.imp id fun e => (Option.some.inj e).symm⟩
            · refine ⟨.ref b, rfl, b, zs, 0, _, rfl, rfl, .inl (.inl hb), atI_nat (j := 0) z0, rfl, false, blF (fun e => w1 (V.str.inj e)), iteF (rest _ _ ⟨l, rfl, s1, epf, fun z => ?_, by omega, hb, ht⟩)⟩
              rw [hm z, f1]
              exact ⟨.inl, fun h => h.elim id fun e => nomatch e⟩
        rintro σ H1 ⟨pf, l, y3, rfl, s1, npf, epf, hm, hl⟩
        rw [lx, List.take_length] at hm hl
        have hsum := sum_perm (psz ps) (l := ps.map (·.nm)) (List.Perm.refl _)
        refine ⟨.ref pd, rfl, pd, ptv ps, ps.map (·.nm), rfl, .inl (s1 _ _ hpd), ptv_keys ps, by rw [List.length_map]; omega, fun ns p1 pm so np1 => ?_⟩
        have s2 := same_new (o := .lst (ns.map V.str)) np1
        have e2 : (upd H1 p1 (.lst (ns.map V.str))) p1 = some (.lst (ns.map V.str)) := upd_same
        have epf2 := s2 _ _ epf
        have s12 := s1.trans s2
        have psum := sum_perm (psz ps) pm
        generalize upd H1 p1 (.lst (ns.map V.str)) = H2 at s2 e2 epf2 s12
        refine ⟨p1, rfl, ⟨_, SqL.of e2⟩, for_list (xs := ns.map V.str) (fun j σ H' => ∃ (pf : Addr) (l : List Str) (y4 : Option V), σ = [some (.ref a), some (.ref pd), some (.ref pf), y3, y4] ∧ Same H H' ∧ H' p1 = some (.lst (ns.map V.str)) ∧ H pf = none ∧ H' pf = some (.lst (l.map V.str)) ∧ (∀ z, z ∈ l ↔ z ∈ flgR rows ∨ ∃ q ∈ ps, q.nm ∈ ns.take j ∧ z ∈ flgR q.rows) ∧ l.length ≤ szR rows + ((ns.take j).map (psz ps)).sum) ?_ ?_ ?_ ?_⟩
        · exact ⟨pf, l, _, rfl, s12, e2, npf, epf2, fun z => by rw [hm z]; simp, by omega⟩
        · rintro j σ H' _ ⟨_, _, _, _, _, h, _⟩
          exact SqL.of h
        · rintro j y σ H3 ey ⟨pf, l, y4, rfl, s3, e3, npf, epf, hm, hl⟩
          obtain ⟨n1, en, rfl⟩ := strs_at ey
          have mn := List.mem_of_getElem? en
          obtain ⟨p, mp, rfl⟩ := List.mem_map.mp (pm.mem_iff.mp mn)
          obtain ⟨hp0, lvp⟩ := hat p mp
          have hp := hp0.same s3
          have hv := (ptv_val nd mp).symm
          have ssum := sum_take (psz ps) ns (j + 1)
          rw [takeS en, List.map_append, List.sum_append] at ssum
          have e1 : ([p.nm].map (psz ps)).sum = szR p.rows := by
            show psz ps p.nm + 0 = _
            rw [psz_of nd mp]
            omega
          rw [e1] at ssum
          refine ⟨.ref pf, rfl, .ref pd, rfl, .str p.nm, rfl, pd, .ref p.t, rfl, .inl ⟨ptv ps, .inr p.nm, .inl (s3 _ _ hpd), rfl, hv⟩, p.t, _, 1, _, rfl, rfl, .inl (.inl hp.1), atI_nat (j := 1) rfl, fun de nde => ?_⟩
          have s4 := same_new (o := .dK []) nde
          refine ⟨p.r, p.rows, de, [], rfl, hp.2.same s4, by omega, upd_same, (fun p m => nomatch m), List.nodup_nil, by show szR p.rows + 0 < 64; omega, by decide, fun ys p2 H5 ndy soy mey ly s5 np2 e5 => ?_⟩
          have e35 := (s4.trans s5) _ _ epf
          have ly' : ys.length ≤ szR p.rows := by
            have : ys.length ≤ szR p.rows + 0 := ly
            omega
          refine ⟨pf, p2, _, _, rfl, rfl, e35, e5, hS _ (by rw [List.length_map, List.length_map]; omega), fun p3 np3 => ?_⟩
          have s35 := s3.trans (s4.trans s5)
          have sN := same_new (o := .lst (l.map V.str ++ ys.map V.str)) np3
          refine ⟨p3, l ++ ys, _, rfl, s35.trans sN, sN _ _ ((s4.trans s5) _ _ e3), s35.free np3, by rw [upd_same, List.map_append], fun z => ?_, by rw [List.length_append, takeS en, List.map_append, List.sum_append, e1]; omega⟩
          rw [List.mem_append, hm z, mey z, takeS en]
          constructor
          · rintro ((h | ⟨q1, mq, h1, h2⟩) | (h | ⟨_, h, _⟩))
            · exact .inl h
            · exact .inr ⟨q1, mq, List.mem_append_left _ h1, h2⟩
            · exact .inr ⟨p, mp, List.mem_append_right _ (List.mem_singleton.mpr rfl), h⟩
            · cases h
          · rintro (h | ⟨q1, mq, h1, h2⟩)
            · exact .inl (.inl h)
            · rcases List.mem_append.mp h1 with h1 | h1
              · exact .inl (.inr ⟨q1, mq, h1, h2⟩)
              · have eqp : q1 = p := nd_inj nd mq mp (List.mem_singleton.mp h1)
                rw [eqp] at h2
                exact .inr (.inl h2)
        rintro σ H3 ⟨pf, l, y4, rfl, s3, e3, npf, epf, hm, hl⟩
        rw [List.length_map, List.take_length] at hm hl
        refine ⟨.ref pf, rfl, pf, l, rfl, SqL.of epf, by omega, fun p m np hmm => ⟨p, _, m, rfl, upd_same, by omega, fun ys p2 nd2 so2 me np2 => ?_⟩⟩
        have s4 := s3.trans (same_new (o := TxO P w p (fun z => decide (z ∈ l)) m) np)
        have mey : ∀ z, z ∈ ys ↔ z ∈ l := fun z => (me z).trans (by simp)
        refine q ys p2 _ nd2 so2 (fun z => ?_) (Nat.le_trans (nd_len nd2 fun z mz => (mey z).mp mz) (by omega)) (s4.trans (same_new np2)) (s4.free np2) upd_same
        rw [mey z, hm z]
        constructor
        · exact fun h => h.imp id fun ⟨q1, mq, _, h2⟩ => ⟨q1, mq, h2⟩
        · exact fun h => h.imp id fun ⟨q1, mq, h2⟩ => ⟨q1, mq, pm.mem_iff.mpr (List.mem_map.mpr ⟨q1, mq, rfl⟩), h2⟩
  intro n
  induction n with
  | zero => exact main 0 fun h => absurd rfl h
  | succ n ih => exact main (n + 1) fun _ => by rw [Nat.add_sub_cancel]; exact ih
where
  nd_inj {ps : List PRow} (nd : (ps.map (·.nm)).Nodup) {a b : PRow} (ha : a ∈ ps) (hb : b ∈ ps) (e : a.nm = b.nm) : a = b := by
    have h1 := find_is (f := fun p : PRow => p.nm) nd ha
    have h2 := find_is (f := fun p : PRow => p.nm) nd hb
    rw [e, h2] at h1
    exact (Option.some.inj h1).symm
end
end NW
namespace NW
open PySem PySem.Spec PyProof.Rows L2
open TL (tl)
open StX (pa_star)
abbrev s_Lsteps : Stmt := topS 89
abbrev N_Lsteps : List Str := ["_law_schema_here", "_law_base", "_law_rows_here", "_law_block", "_law_found", "_law_k", "_law_row", "_law_target_here"]
theorem sc_Lsteps : FnScope N_Lsteps ["_law_schema_here", "_law_base", "_law_rows_here", "_law_block"] (defScope s_Lsteps) := ⟨rfl, rfl, rfl, by decide +kernel, rfl, by decide +kernel, by decide +kernel⟩
abbrev s_Lall_steps : Stmt := topS 90
abbrev N_Lall_steps : List Str := ["_law_schema_here", "_law_rows_here", "_law_parts", "_law_found", "_law_word"]
theorem sc_Lall_steps : FnScope N_Lall_steps ["_law_schema_here", "_law_rows_here", "_law_parts"] (defScope s_Lall_steps) := ⟨rfl, rfl, rfl, by decide +kernel, rfl, by decide +kernel, by decide +kernel⟩
theorem catK {K : PySem.W.Frag} {H : Hp} {p p1 : Addr} {pl : List Key} {k : Key} {Q : VK} (hp : H p = some (.tup (pl.map kV))) (l : pl.length ≤ 100) (np1 : H p1 = none) (q : ∀ pp H', Same H H' → H' pp = some (.tup ((pl ++ [k]).map kV)) → Q (.ref pp) H') : rCatA K (.ref p) (.ref p1) (upd H p1 (.tup [kV k])) Q := by
  have hS : ∀ n : Nat, n ≤ 1000 → n ≤ sizeLine := fun n h => Nat.le_trans h (by decide)
  have s1 := same_new (o := .tup [kV k]) np1
  refine ⟨p, p1, pl.map kV, [kV k], rfl, rfl, .inl (.inl (s1 _ _ hp)), .inl (.inl upd_same), ?_, fun e0 => ?_, fun _ e0 => (nomatch e0), fun _ _ p2 np2 => ?_⟩
  · rw [List.length_map]
    exact hS _ (by show pl.length + 1 ≤ 1000; omega)
  · have e1 : pl = [] := List.map_eq_nil_iff.mp e0
    subst e1
    exact q _ _ s1 upd_same
  · refine q _ _ (s1.trans (same_new np2)) ?_
    rw [upd_same, List.map_append]
    rfl
theorem prR_app (ks : List KRow) (fs : List FRow) (pl : List Key) (z : Str) : ∀ (a b : List St) (k : Nat), prR ks fs pl z k (a ++ b) = prR ks fs pl z k a ++ prR ks fs pl z (k + a.length) b
  | [], b, k => by simp [prR]
  | s :: r, b, k => by
    have ih := prR_app ks fs pl z r b (k + 1)
    show _ :: (prS ks fs (pl ++ [Sum.inl (k : Int)]) z s ++ prR ks fs pl z (k + 1) (r ++ b)) = (_ :: (prS ks fs (pl ++ [Sum.inl (k : Int)]) z s ++ prR ks fs pl z (k + 1) r)) ++ _
    rw [ih, List.cons_append, List.append_assoc, List.length_cons, show k + 1 + r.length = k + (r.length + 1) by omega]
theorem prR_step {ks : List KRow} {fs : List FRow} {pl : List Key} {z : Str} {rows : List St} {i : Nat} {t : St} (e : rows[i]? = some t) : prR ks fs pl z 0 (rows.take (i + 1)) = (prR ks fs pl z 0 (rows.take i) ++ [⟨pl ++ [Sum.inl (i : Int)], z, t⟩]) ++ prR ks fs (pl ++ [Sum.inl (i : Int)]) (ib ks fs z t) 0 t.rows := by
  have hi : i < rows.length := (List.getElem?_eq_some_iff.mp e).1
  rw [takeS e, prR_app, List.length_take, Nat.min_eq_left (by omega), Nat.zero_add]
  show _ ++ (_ :: (prS ks fs (pl ++ [Sum.inl (i : Int)]) z t ++ [])) = _
  rw [List.append_nil, prS_rows, List.append_assoc]
  rfl
mutual
theorem prS_len {ks : List KRow} {fs : List FRow} : ∀ {t : St} {pl : List Key} {z : Str}, (prS ks fs pl z t).length + 1 = szS t
  | .field f k r, pl, z => by show (prR ks fs pl (ibF ks fs z f) 0 r).length + 1 = 1 + szR r; rw [prR_len]; omega
  | .kind k, pl, z => rfl
  | .on b r, pl, z => by show (prR ks fs pl b 0 r).length + 1 = 1 + szR r; rw [prR_len]; omega
  | .part p, pl, z => rfl
  | .iff f b r, pl, z => by show (prR ks fs pl z 0 r).length + 1 = 1 + szR r; rw [prR_len]; omega
theorem prR_len {ks : List KRow} {fs : List FRow} : ∀ {rows : List St} {pl : List Key} {z : Str} {k : Nat}, (prR ks fs pl z k rows).length = szR rows
  | [], pl, z, k => rfl
  | s :: r, pl, z, k => by
    show (prS ks fs (pl ++ [Sum.inl (k : Int)]) z s ++ prR ks fs pl z (k + 1) r).length + 1 = szS s + szR r
    have := prS_len (ks := ks) (fs := fs) (t := s) (pl := pl ++ [Sum.inl (k : Int)]) (z := z)
    rw [List.length_append, prR_len (rows := r)]
    omega
end
section
variable {P : Program} {w : World} {K : PySem.W.Frag} {mg : Str → Option Value} {base : Heap}
def spLsteps (n : Nat) : Sp := fun vs H Q _ => ∃ (q kt ft ut p : Addr) (ks : List KRow) (fs : List FRow) (us : List URow) (root z : Str) (r : V) (rows : List St) (pl : List Key) (bs : List Str) (D : Str → Prop), vs = [.ref q, .str z, r, .ref p] ∧ SchT H q kt ft ut ks fs us root ∧ RowAt H r rows ∧ fitR ks fs bs D z rows ∧ lvR rows < n ∧ H p = some (.tup (pl.map kV)) ∧ pl.length + n ≤ 50 ∧ szR rows ≤ 100 ∧
  ∀ d xs H', Same H H' → H d = none → H' d = some (.lst xs) → ItsAt H' xs (prR ks fs pl z 0 rows) → Q (.ref d) H'
theorem fitR_mem {ks : List KRow} {fs : List FRow} {bs : List Str} {D : Str → Prop} {z : Str} : ∀ {rows : List St} {t : St}, fitR ks fs bs D z rows → t ∈ rows → fitS ks fs bs D z t
  | s :: r, t, h, m => by
    rcases List.mem_cons.mp m with rfl | m
    · exact h.1
    · exact fitR_mem h.2 m
theorem ok_Lsteps {f f1 f2 : Addr} {fd fd1 fd2 : FuncData} (D : Df K mg "_law_steps" s_Lsteps f fd ["_law_schema_here", "_law_base", "_law_rows_here", "_law_block"]) (D_Ltarget : Df K mg "_law_target" s_Ltarget f1 fd1 ["_law_shape_here"]) (D_Ltable : Df K mg "_law_table" s_Ltable f2 fd2 ["_law_schema_here", "_law_base"]) (T : Nms mg) :
    ∀ n : Nat, FnOk P w K mg base CX0 (n + 1) f fd ["_law_schema_here", "_law_base", "_law_rows_here", "_law_block"] (spLsteps n) := by
  have G_Ltarget : FnOk P w K mg base CX0 1 f1 fd1 ["_law_shape_here"] spLtarget := ok_Ltarget D_Ltarget T
  have G_Ltable : FnOk P w K mg base CX0 1 f2 fd2 ["_law_schema_here", "_law_base"] spLtable := ok_Ltable D_Ltable T
  intro n
  induction n with
  | zero =>
    refine D.F.ok sc_Lsteps (fun vs H Q E h => ?_) (fun cdv A outer s H vs Q E hr h => ?_)
    · obtain ⟨q, kt, ft, ut, p, ks, fs, us, root, z, r, rows, pl, bs, DD, rfl, _⟩ := h
      rfl
    · obtain ⟨q, kt, ft, ut, p, ks, fs, us, root, z, r, rows, pl, bs, DD, rfl, sch, hrow, fit, lv, _⟩ := h
      exact absurd lv (Nat.not_lt_zero _)
  | succ n ih =>
    refine D.F.ok sc_Lsteps (fun vs H Q E h => ?_) (fun cdv A outer s H vs Q E hr h => ?_)
    · obtain ⟨q, kt, ft, ut, p, ks, fs, us, root, z, r, rows, pl, bs, DD, rfl, _⟩ := h
      rfl
    · obtain ⟨q, kt, ft, ut, p, ks, fs, us, root, z, r, rows, pl, bs, DD, rfl, sch, hrow, fit, lv, hp, pl50, sz, k⟩ := h
      have hu := hu_of hr
      refine ⟨_, (pss_cons (ps_set (i := 4) sc_Lsteps.nd rfl (.inl rfl) (pe_lst pa_nil))
        (pss_cons (ps_for PassesOwn.never rfl (pi_range1 (by rfl) T.n_range (pa_cons (pe_callB call_len_seq (by rfl) T.n_len (by decide +kernel) (pa_cons (pv 2) pa_nil)) pa_nil)) (pg_name (i := 5) sc_Lsteps.nd rfl (.inl rfl))
         (pss_cons (ps_set (i := 6) sc_Lsteps.nd rfl (.inl rfl) (pe_ix ix_tup (pv 2) (pv 5) (fun _ _ => rfl)))
          (pss_cons (ps_expr (pe_bm PySem.F.plainAttrs_list PySem.F.slot_list_append PySem.F.type_list_append mt_append (pv 4) (pa_cons (pe_tup (pa_cons (pe_op (op_catAK K) (pv 3) (pe_tup (pa_cons (pv 5) pa_nil))) (pa_cons (pv 1) (pa_cons (pv 6) pa_nil)))) pa_nil)))
          (pss_cons (ps_if (pt_cmpR op_eq (pe_ix ix_tup (pv 6) pe_int (fun _ _ => rfl)) pe_str (nomark _))
           (pss_cons (ps_set (i := 7) sc_Lsteps.nd rfl (.inl rfl) (pe_call G_Ltarget (hr.mono (by omega)) (by rfl) D_Ltarget.g D_Ltarget.F.kp D_Ltarget.b .nil pass0 (pa_cons (pe_dget hu (pe_call G_Ltable (hr.mono (by omega)) (by rfl) D_Ltable.g D_Ltable.F.kp D_Ltable.b .nil pass0 (pa_cons (pv 0) (pa_cons (pv 1) pa_nil))) (pe_ix ix_tup (pv 6) pe_int (fun _ _ => rfl)) (fun _ _ => rfl)) pa_nil)))
            (pss_one (ps_set (i := 4) sc_Lsteps.nd rfl (.inl rfl) (pe_op op_cat (pv 4) (pe_call ih (hr.mono (by omega)) (by rfl) D.g D.F.kp D.b .nil pass0 (pa_cons (pv 0) (pa_cons (pv 7) (pa_cons (pe_ix ix_tup (pv 6) pe_int (fun _ _ => rfl)) (pa_cons (pe_op (op_catAK K) (pv 3) (pe_tup (pa_cons (pv 5) pa_nil))) pa_nil)))))))))
           pss_nil)
          (pss_cons (ps_if (pt_cmpR op_eq (pe_ix ix_tup (pv 6) pe_int (fun _ _ => rfl)) pe_str (nomark _))
           (pss_one (ps_set (i := 4) sc_Lsteps.nd rfl (.inl rfl) (pe_op op_cat (pv 4) (pe_call ih (hr.mono (by omega)) (by rfl) D.g D.F.kp D.b .nil pass0 (pa_cons (pv 0) (pa_cons (pe_ix ix_tup (pv 6) pe_int (fun _ _ => rfl)) (pa_cons (pe_ix ix_tup (pv 6) pe_int (fun _ _ => rfl)) (pa_cons (pe_op (op_catAK K) (pv 3) (pe_tup (pa_cons (pv 5) pa_nil))) pa_nil))))))))
           pss_nil)
          (pss_one (ps_if (pt_cmpR op_eq (pe_ix ix_tup (pv 6) pe_int (fun _ _ => rfl)) pe_str (nomark _))
           (pss_one (ps_set (i := 4) sc_Lsteps.nd rfl (.inl rfl) (pe_op op_cat (pv 4) (pe_call ih (hr.mono (by omega)) (by rfl) D.g D.F.kp D.b .nil pass0 (pa_cons (pv 0) (pa_cons (pv 1) (pa_cons (pe_ix ix_tup (pv 6) pe_int (fun _ _ => rfl)) (pa_cons (pe_op (op_catAK K) (pv 3) (pe_tup (pa_cons (pv 5) pa_nil))) pa_nil))))))))
           pss_nil)))))))
        (pss_one (ps_ret (pv 4))))), ?_⟩
      have hS : ∀ n : Nat, n ≤ 1000 → n ≤ sizeLine := fun n h => Nat.le_trans h (by decide)
      have lt : ∀ n : Nat, n ≤ 1000 → n < sizeLine := fun n h => Nat.lt_of_le_of_lt h (by decide)
      have nw : ∀ {x y : Str}, x ≠ y → ¬ (V.str x = V.str y) := fun h e => h (V.str.inj e)
      obtain ⟨hq, S, ok⟩ := sch
      obtain ⟨a, vs, rfl, ha, al⟩ := hrow.tup
      have lx := al.len
      have lr := szR_len rows
      refine ⟨hS 0 (by decide), fun pf npf => ?_⟩
      have s0 := same_new (o := .lst []) npf
      have e0 : (upd H pf (.lst [])) pf = some (.lst []) := upd_same
      generalize upd H pf (.lst []) = H0 at s0 e0
      refine ⟨.ref a, rfl, a, vs, rfl, .inr (.inl (.inl (s0 _ _ ha))), vs.length, rfl, by omega, by omega, for_range (lo := 0) (n := vs.length) (fun i σ H' => ∃ (pf : Addr) (xs : List V) (y5 y6 y7 : Option V), σ = [some (.ref q), some (.str z), some (.ref a), some (.ref p), some (.ref pf), y5, y6, y7] ∧ Same H H' ∧ H pf = none ∧ H' pf = some (.lst xs) ∧ ItsAt H' xs (prR ks fs pl z 0 (rows.take i))) ⟨pf, [], none, none, none, rfl, s0, npf, e0, rfl, fun j v e => by simp at e⟩ ?_ ?_⟩
      · rintro i σ H1 hi ⟨pf, xs, y5, y6, y7, rfl, s1, npf, epf, hits⟩
        have hi2 : i < rows.length := by omega
        obtain ⟨t, et⟩ : ∃ t, rows[i]? = some t := ⟨rows[i], List.getElem?_eq_getElem hi2⟩
        obtain ⟨v, ev, hv0⟩ := al.get et
        have mt := List.mem_of_getElem? et
        have hv := hv0.same s1
        have fitt := fitR_mem fit mt
        have lvt := lvR_mem mt
        rw [lvS_rows] at lvt
        have estep := prR_step (ks := ks) (fs := fs) (pl := pl) (z := z) et
        have hszt : szR (rows.take i) + (1 + szR t.rows) ≤ szR rows := by
          have := szR_take (rows := rows) (i := i + 1)
          rw [takeS et, szR_app, szR_one, szS_rows] at this
          exact this
        have lxs : xs.length = szR (rows.take i) := by rw [hits.1, prR_len]
        refine ⟨.ref a, rfl, .int (0 + (i : Int)), rfl, a, vs, _, v, rfl, rfl, .inl (.inl (s1 _ _ ha)), at_of (j := i) (by omega) ev, ?_⟩
        have ei : (0 + (i : Int)) = (i : Int) := by omega
        rw [ei]
        refine ⟨.ref pf, rfl, .inl ⟨rfl, _, SqL.of epf⟩, .ref p, rfl, .int i, rfl, hS 1 (by decide), fun p1 np1 => catK (k := Sum.inl (i : Int)) (s1 _ _ hp) (by omega) np1 fun pp H2 s2 e2 => ?_⟩
        refine ⟨.str z, rfl, v, rfl, hS 3 (by decide), fun tt ntt => ?_⟩
        have s3 := same_new (o := .tup [.ref pp, .str z, v]) ntt
        have e3 : (upd H2 tt (.tup [.ref pp, .str z, v])) tt = some (.tup [.ref pp, .str z, v]) := upd_same
        generalize upd H2 tt (.tup [.ref pp, .str z, v]) = H3 at s3 e3
        have s23 := s2.trans s3
        have epf3 := s23 _ _ epf
        refine ⟨pf, _, _, rfl, rfl, epf3, lt _ (by omega), ?_⟩
        have k4 : Tk H3 (upd H3 pf (.lst (xs ++ [.ref tt]))) := Tk.upd epf3 (fun _ z => nomatch z)
        have epf4 : (upd H3 pf (.lst (xs ++ [.ref tt]))) pf = some (.lst (xs ++ [.ref tt])) := upd_same
        have s14 := same_upd (o := .lst (xs ++ [.ref tt])) (s1.trans s23) npf
        generalize upd H3 pf (.lst (xs ++ [.ref tt])) = H4 at k4 epf4 s14
        have its4 : ItsAt H4 (xs ++ [.ref tt]) (prR ks fs pl z 0 (rows.take i) ++ [⟨pl ++ [Sum.inl (i : Int)], z, t⟩]) := (hits.tk ((Same.tk s23).trans k4)).app (.one ⟨tt, pp, v, rfl, k4 _ _ e3, k4 _ _ (s3 _ _ e2), (hv.same s23).tk k4⟩)
        have hv4 : StAt H4 v t := (hv.same s23).tk k4
        have ha4 := s14 _ _ ha
        have hp4 := s14 _ _ hp
        have sch4 : SchT H4 q kt ft ut ks fs us root := ⟨s14 _ _ hq, S.same s14, ok⟩
        -- what the inner rows give
        have inner : ∀ {z' : Str} {r' : V} {H5 : Hp} {Q' : VK}, z' = ib ks fs z t → Same H4 H5 → RowAt H5 r' t.rows → (∀ d xs5 H6, Same H5 H6 → H6 d = some (.lst (xs ++ [.ref tt] ++ xs5)) → H d = none → ItsAt H6 (xs ++ [.ref tt] ++ xs5) (prR ks fs pl z 0 (rows.take (i + 1))) → Q' (.ref d) H6) → ∀ (p1 : Addr), H5 p1 = none → rCatA K (.ref p) (.ref p1) (upd H5 p1 (.tup [kV (Sum.inl (i : Int))])) fun y H6 => spLsteps n [.ref q, .str z', r', y] H6 (fun x H7 => rCat (.ref pf) x H7 Q') E0 := by
          intro z' r' H5 Q' ez s5 hr5 go p1 np1
          subst ez
          refine catK (k := Sum.inl (i : Int)) (s5 _ _ hp4) (by omega) np1 fun pp H6 s6 e6 => ?_
          obtain ⟨_, fitr⟩ := fitS_rows fitt
          have s46 := s5.trans s6
          refine ⟨q, kt, ft, ut, pp, ks, fs, us, root, ib ks fs z t, r', t.rows, pl ++ [Sum.inl (i : Int)], bs, DD, rfl, ⟨s46 _ _ sch4.1, sch4.2.1.same s46, ok⟩, hr5.same s6, fitr, by omega, e6, by rw [List.length_append]; show pl.length + 1 + n ≤ 50; omega, by omega, fun d xs5 H7 s7 nd ed hits7 => ?_⟩
          have l5 : xs5.length = szR t.rows := by rw [hits7.1, prR_len]
          have s47 := s46.trans s7
          refine ⟨pf, d, _, _, rfl, rfl, s47 _ _ epf4, ed, hS _ (by rw [List.length_append]; show xs.length + 1 + xs5.length ≤ 1000; omega), fun p3 np3 => ?_⟩
          have s8 := same_new (o := .lst (xs ++ [.ref tt] ++ xs5)) np3
          refine go p3 xs5 _ ((s6.trans s7).trans s8) upd_same ((s14.trans s47).free np3) ?_
          rw [estep]
          exact ((its4.tk (Same.tk s47)).app hits7).tk (Same.tk s8)
        have skip : t.rows = [] → ItsAt H4 (xs ++ [.ref tt]) (prR ks fs pl z 0 (rows.take (i + 1))) := fun e => by
          rw [estep, e]
          show ItsAt _ _ (_ ++ [])
          rw [List.append_nil]
          exact its4
        cases hv4 with
        | @field b ff kk rr rws e r =>
          refine ⟨.ref b, rfl, b, _, 0, _, rfl, rfl, .inl (.inl e), atI_nat (j := 0) rfl, rfl, true, blT rfl, iteT ?_⟩
          obtain ⟨_, _, ⟨fl, mfl, e1, _⟩, _⟩ := fitt
          refine ⟨.ref q, rfl, .str z, rfl, q, kt, ft, ut, ks, fs, us, root, z, rfl, sch4, fun fds d H5 hf hsh s5 ed => ?_⟩
          have e2 := fds_eq ok hf
          have mfl2 : fl ∈ fds := by rw [e2]; exact mfl
          subst e1
          refine ⟨.ref b, rfl, b, _, 1, _, rfl, rfl, .inl (.inl (s5 _ _ e)), atI_nat (j := 1) rfl, d, fl.2.1, rfl, .inl ⟨fkv fds, .inr fl.1, .inl ed, rfl, (fkv_val (hf.nd ok) mfl2).symm⟩, fl.2.1, fl.2.2, rfl, hsh fl mfl2, okS_dep (hf.ok ok mfl2), ?_⟩
          have ez : fl.2.2.tgt = ib ks fs z (.field fl.1 kk rws) := by
            show _ = ibF ks fs z fl.1
            unfold ibF
            rw [find_is (f := fun fl : Fld => fl.1) ((fds_ex (ks := ks) (fs := fs) (z := z)).nd ok) mfl]
          refine ⟨.ref pf, rfl, .ref q, rfl, .str fl.2.2.tgt, rfl, .ref b, rfl, b, _, 3, _, rfl, rfl, .inl (.inl (s5 _ _ e)), atI_nat (j := 3) rfl, .ref p, rfl, .int i, rfl, hS 1 (by decide), fun p1 np1 => inner ez s5 (r.same s5) (fun d xs5 H6 s6 e6 nd hits6 => ?_) p1 np1⟩
          have eb := s6 _ _ (s5 _ _ e)
          exact ⟨.ref b, rfl, b, _, 0, _, rfl, rfl, .inl (.inl eb), atI_nat (j := 0) rfl, rfl, false, blF (nw (by decide +kernel)), iteF ⟨.ref b, rfl, b, _, 0, _, rfl, rfl, .inl (.inl eb), atI_nat (j := 0) rfl, rfl, false, blF (nw (by decide +kernel)), iteF ⟨d, _, _, _, _, rfl, (s14.trans s5).trans s6, nd, e6, hits6⟩⟩⟩
        | @kind b _ e =>
          exact ⟨.ref b, rfl, b, _, 0, _, rfl, rfl, .inl (.inl e), atI_nat (j := 0) rfl, rfl, false, blF (nw (by decide +kernel)), iteF ⟨.ref b, rfl, b, _, 0, _, rfl, rfl, .inl (.inl e), atI_nat (j := 0) rfl, rfl, false, blF (nw (by decide +kernel)), iteF ⟨.ref b, rfl, b, _, 0, _, rfl, rfl, .inl (.inl e), atI_nat (j := 0) rfl, rfl, false, blF (nw (by decide +kernel)), iteF ⟨pf, _, _, _, _, rfl, s14, npf, epf4, skip rfl⟩⟩⟩⟩
        | @on b zz _ _ e r =>
          refine ⟨.ref b, rfl, b, _, 0, _, rfl, rfl, .inl (.inl e), atI_nat (j := 0) rfl, rfl, false, blF (nw (by decide +kernel)), iteF ⟨.ref b, rfl, b, _, 0, _, rfl, rfl, .inl (.inl e), atI_nat (j := 0) rfl, rfl, true, blT rfl, iteT ?_⟩⟩
          refine ⟨.ref pf, rfl, .ref q, rfl, .ref b, rfl, b, _, 1, _, rfl, rfl, .inl (.inl e), atI_nat (j := 1) rfl, .ref b, rfl, b, _, 2, _, rfl, rfl, .inl (.inl e), atI_nat (j := 2) rfl, .ref p, rfl, .int i, rfl, hS 1 (by decide), fun p1 np1 => inner (z' := zz) rfl (Same.refl _) r (fun d xs5 H6 s6 e6 nd hits6 => ?_) p1 np1⟩
          have eb := s6 _ _ e
          exact ⟨.ref b, rfl, b, _, 0, _, rfl, rfl, .inl (.inl eb), atI_nat (j := 0) rfl, rfl, false, blF (nw (by decide +kernel)), iteF ⟨d, _, _, _, _, rfl, s14.trans s6, nd, e6, hits6⟩⟩
        | @part b _ e =>
          exact ⟨.ref b, rfl, b, _, 0, _, rfl, rfl, .inl (.inl e), atI_nat (j := 0) rfl, rfl, false, blF (nw (by decide +kernel)), iteF ⟨.ref b, rfl, b, _, 0, _, rfl, rfl, .inl (.inl e), atI_nat (j := 0) rfl, rfl, false, blF (nw (by decide +kernel)), iteF ⟨.ref b, rfl, b, _, 0, _, rfl, rfl, .inl (.inl e), atI_nat (j := 0) rfl, rfl, false, blF (nw (by decide +kernel)), iteF ⟨pf, _, _, _, _, rfl, s14, npf, epf4, skip rfl⟩⟩⟩⟩
        | @iff b _ _ _ _ e r =>
          refine ⟨.ref b, rfl, b, _, 0, _, rfl, rfl, .inl (.inl e), atI_nat (j := 0) rfl, rfl, false, blF (nw (by decide +kernel)), iteF ⟨.ref b, rfl, b, _, 0, _, rfl, rfl, .inl (.inl e), atI_nat (j := 0) rfl, rfl, false, blF (nw (by decide +kernel)), iteF ⟨.ref b, rfl, b, _, 0, _, rfl, rfl, .inl (.inl e), atI_nat (j := 0) rfl, rfl, true, blT rfl, iteT ?_⟩⟩⟩
          refine ⟨.ref pf, rfl, .ref q, rfl, .str z, rfl, .ref b, rfl, b, _, 3, _, rfl, rfl, .inl (.inl e), atI_nat (j := 3) rfl, .ref p, rfl, .int i, rfl, hS 1 (by decide), fun p1 np1 => inner (z' := z) rfl (Same.refl _) r (fun d xs5 H6 s6 e6 nd hits6 => ?_) p1 np1⟩
          exact ⟨d, _, _, _, _, rfl, s14.trans s6, nd, e6, hits6⟩
      · rintro σ H1 ⟨pf, xs, y5, y6, y7, rfl, s1, npf, epf, hits⟩
        rw [lx, List.take_length] at hits
        exact ⟨.ref pf, rfl, k pf xs H1 s1 npf epf hits⟩
def spLallSteps : Sp := fun vs H Q _ => ∃ (q kt ft ut pd : Addr) (ks : List KRow) (fs : List FRow) (us : List URow) (root : Str) (r : V) (rows : List St) (ps : List PRow) (bs : List Str) (D : Str → Prop), vs = [.ref q, r, .ref pd] ∧ SchT H q kt ft ut ks fs us root ∧ RowAt H r rows ∧ fitR ks fs bs D root rows ∧ lvR rows ≤ 5 ∧ H pd = some (.dK (ptv ps)) ∧ (ps.map (·.nm)).Nodup ∧ ps.length ≤ 4 ∧ (∀ p ∈ ps, p.At H ∧ fitR ks fs bs D p.z p.rows ∧ lvR p.rows ≤ 5) ∧ (allItems ks fs ps root rows).length ≤ 100 ∧
  ∀ d xs H', Same H H' → H d = none → H' d = some (.lst xs) → ItsAt H' xs (allItems ks fs ps root rows) → Q (.ref d) H'
theorem ok_Lall_steps {f f1 : Addr} {fd fd1 : FuncData} (D : Df K mg "_law_all_steps" s_Lall_steps f fd ["_law_schema_here", "_law_rows_here", "_law_parts"]) (D_Lsteps : Df K mg "_law_steps" s_Lsteps f1 fd1 ["_law_schema_here", "_law_base", "_law_rows_here", "_law_block"])
    (G_Lsteps : FnOk P w K mg base CX0 7 f1 fd1 ["_law_schema_here", "_law_base", "_law_rows_here", "_law_block"] (spLsteps 6)) (T : Nms mg) : FnOk P w K mg base CX0 8 f fd ["_law_schema_here", "_law_rows_here", "_law_parts"] spLallSteps := by
  refine D.F.ok sc_Lall_steps (fun vs H Q E h => ?_) (fun cdv A outer s H vs Q E hr h => ?_)
  · obtain ⟨q, kt, ft, ut, pd, ks, fs, us, root, r, rows, ps, bs, DD, rfl, _⟩ := h
    rfl
  · obtain ⟨q, kt, ft, ut, pd, ks, fs, us, root, r, rows, ps, bs, DD, rfl, sch, hrow, fit, lv, hpd, nd, n4, hat, few, k⟩ := h
    have hu := hu_of hr
    refine ⟨_, (pss_cons (ps_set (i := 3) sc_Lall_steps.nd rfl (.inl rfl) (pe_call G_Lsteps (hr.mono (by decide)) (by rfl) D_Lsteps.g D_Lsteps.F.kp D_Lsteps.b .nil pass0 (pa_cons (pv 0) (pa_cons (pe_ix ix_tup (pv 0) pe_int (fun _ _ => rfl)) (pa_cons (pv 1) (pa_cons (pe_tup pa_nil) pa_nil))))))
      (pss_cons (ps_for PassesOwn.never rfl (pi_list (pe_callB (call_sortedD rfl) (by rfl) T.n_sorted (by decide +kernel) (pa_cons (pv 2) pa_nil))) (pg_name (i := 4) sc_Lall_steps.nd rfl (.inl rfl))
       (pss_one (ps_set (i := 3) sc_Lall_steps.nd rfl (.inl rfl) (pe_op op_cat (pv 3) (pe_call G_Lsteps (hr.mono (by decide)) (by rfl) D_Lsteps.g D_Lsteps.F.kp D_Lsteps.b .nil pass0 (pa_cons (pv 0) (pa_cons (pe_ix ix_tup (pe_dget hu (pv 2) (pv 4) (fun _ _ => rfl)) pe_int (fun _ _ => rfl)) (pa_cons (pe_ix ix_tup (pe_dget hu (pv 2) (pv 4) (fun _ _ => rfl)) pe_int (fun _ _ => rfl)) (pa_cons (pe_tup (pa_cons (pv 4) pa_nil)) pa_nil)))))))))
      (pss_one (ps_ret (pv 3))))), ?_⟩
    have hS : ∀ n : Nat, n ≤ 1000 → n ≤ sizeLine := fun n h => Nat.le_trans h (by decide)
    obtain ⟨hq, S, ok⟩ := sch
    unfold allItems at few
    rw [List.length_append, prR_len] at few
    refine ⟨.ref q, rfl, .ref q, rfl, q, _, 3, _, rfl, rfl, .inl (.inl hq), atI_nat (j := 3) rfl, r, rfl, hS 0 (by decide), fun p0 np0 => ?_⟩
    have s0 := same_new (o := .tup []) np0
    refine ⟨q, kt, ft, ut, p0, ks, fs, us, root, root, r, rows, [], bs, DD, rfl, ⟨s0 _ _ hq, S.same s0, ok⟩, hrow.same s0, fit, by omega, upd_same, by show 0 + 6 ≤ 50; decide, by omega, fun pf xs H1 s1 npf epf hits => ?_⟩
    have s01 := s0.trans s1
    have npf0 := s0.free npf
    refine ⟨.ref pd, rfl, pd, ptv ps, ps.map (·.nm), rfl, .inl (s01 _ _ hpd), ptv_keys ps, by rw [List.length_map]; omega, fun ns p1 pm so np1 => ?_⟩
    have v1 := srt_eq pm so
    rw [v1] at few
    have s2 := same_new (o := .lst (ns.map V.str)) np1
    have e2 : (upd H1 p1 (.lst (ns.map V.str))) p1 = some (.lst (ns.map V.str)) := upd_same
    have epf2 := s2 _ _ epf
    have hits2 := hits.tk (Same.tk s2)
    have s02 := s01.trans s2
    generalize upd H1 p1 (.lst (ns.map V.str)) = H2 at s2 e2 epf2 hits2 s02
    refine ⟨p1, rfl, ⟨_, SqL.of e2⟩, for_list (xs := ns.map V.str) (fun j σ H' => ∃ (pf : Addr) (xs : List V) (y4 : Option V), σ = [some (.ref q), some r, some (.ref pd), some (.ref pf), y4] ∧ Same H H' ∧ H' p1 = some (.lst (ns.map V.str)) ∧ H pf = none ∧ H' pf = some (.lst xs) ∧ ItsAt H' xs (prR ks fs [] root 0 rows ++ (ns.take j).flatMap (pItems ks fs ps))) ?_ ?_ ?_ ?_⟩
    · exact ⟨pf, xs, _, rfl, s02, e2, npf0, epf2, by rw [List.take_zero]; show ItsAt _ _ (_ ++ []); rw [List.append_nil]; exact hits2⟩
    · rintro j σ H' _ ⟨_, _, _, _, _, h, _⟩
      exact SqL.of h
    · rintro j y σ H3 ey ⟨pf, xs, y4, rfl, s3, e3, npf, epf, hits⟩
      obtain ⟨n1, en, rfl⟩ := strs_at ey
      have mn := List.mem_of_getElem? en
      obtain ⟨p, mp, rfl⟩ := List.mem_map.mp (pm.mem_iff.mp mn)
      obtain ⟨hp0, fitp, lvp⟩ := hat p mp
      have hp := hp0.same s3
      have hv := (ptv_val nd mp).symm
      have epI := pItems_of (ks := ks) (fs := fs) nd mp
      have hlen : (ns.take j).flatMap (pItems ks fs ps) ++ prR ks fs [Sum.inr p.nm] p.z 0 p.rows = (ns.take (j + 1)).flatMap (pItems ks fs ps) := by
        rw [takeS en, List.flatMap_append, ← epI]
        simp
      have hle : ((ns.take (j + 1)).flatMap (pItems ks fs ps)).length ≤ (ns.flatMap (pItems ks fs ps)).length := by
        have := congrArg List.length (show ns.flatMap (pItems ks fs ps) = (ns.take (j + 1)).flatMap (pItems ks fs ps) ++ (ns.drop (j + 1)).flatMap (pItems ks fs ps) by rw [← List.flatMap_append, List.take_append_drop])
        rw [List.length_append] at this
        omega
      rw [← hlen, List.length_append, prR_len] at hle
      have lxs := hits.1
      rw [List.length_append, prR_len] at lxs
      refine ⟨.ref pf, rfl, .ref q, rfl, .ref pd, rfl, .str p.nm, rfl, pd, .ref p.t, rfl, .inl ⟨ptv ps, .inr p.nm, .inl (s3 _ _ hpd), rfl, hv⟩, p.t, _, 0, _, rfl, rfl, .inl (.inl hp.1), atI_nat (j := 0) rfl, .ref pd, rfl, .str p.nm, rfl, pd, .ref p.t, rfl, .inl ⟨ptv ps, .inr p.nm, .inl (s3 _ _ hpd), rfl, hv⟩, p.t, _, 1, _, rfl, rfl, .inl (.inl hp.1), atI_nat (j := 1) rfl, .str p.nm, rfl, hS 1 (by decide), fun p0 np0 => ?_⟩
      have s4 := same_new (o := .tup [.str p.nm]) np0
      have s34 := s3.trans s4
      refine ⟨q, kt, ft, ut, p0, ks, fs, us, root, p.z, p.r, p.rows, [Sum.inr p.nm], bs, DD, rfl, ⟨s34 _ _ hq, S.same s34, ok⟩, hp.2.same s4, fitp, by omega, upd_same, by show 1 + 6 ≤ 50; decide, by omega, fun d xs5 H5 s5 nd5 e5 hits5 => ?_⟩
      have l5 := hits5.1
      rw [prR_len] at l5
      have s35 := s4.trans s5
      refine ⟨pf, d, _, _, rfl, rfl, s35 _ _ epf, e5, hS _ (by omega), fun p3 np3 => ?_⟩
      have s6 := same_new (o := .lst (xs ++ xs5)) np3
      refine ⟨p3, xs ++ xs5, _, rfl, (s3.trans s35).trans s6, s6 _ _ (s35 _ _ e3), (s3.trans s35).free np3, upd_same, ?_⟩
      rw [← hlen, ← List.append_assoc]
      exact ((hits.tk (Same.tk s35)).app hits5).tk (Same.tk s6)
    · rintro σ H3 ⟨pf, xs, y4, rfl, s3, e3, npf, epf, hits⟩
      rw [List.length_map, List.take_length, ← v1] at hits
      exact ⟨.ref pf, rfl, k pf xs H3 s3 npf epf hits⟩
end
end NW
namespace NW
open PySem PySem.Spec PyProof.Rows L2
open TL (tl)
open StX (pa_star)
abbrev s_Lrows : Stmt := topS 84
abbrev N_Lrows : List Str := ["_law_box_here", "_law_plan_here", "_law_base", "_law_high", "_law_rows_here", "_law_k"]
theorem sc_Lrows : FnScope N_Lrows ["_law_box_here", "_law_plan_here", "_law_base", "_law_high"] (defScope s_Lrows) := ⟨rfl, rfl, rfl, by decide +kernel, rfl, by decide +kernel, by decide +kernel⟩
abbrev s_Lstatement : Stmt := topS 86
abbrev N_Lstatement : List Str := ["_law_box_here", "_law_plan_here", "_law_base", "_law_high", "_law_schema_here", "_law_choice", "_law_fields", "_law_bases_here", "_law_inner", "_law_own", "_law_flag", "_law_wanted", "_law_words_here", "_law_name", "_law_target_here", "_law_word"]
theorem sc_Lstatement : FnScope N_Lstatement ["_law_box_here", "_law_plan_here", "_law_base", "_law_high"] (defScope s_Lstatement) := ⟨rfl, rfl, rfl, by decide +kernel, rfl, by decide +kernel, by decide +kernel⟩
theorem G2.upd {b d p : Addr} {H H1 : Hp} {o : HO} (x : G2 b d H H1) (h : H p = none) : G2 b d H (upd H1 p o) := fun a u n m e => by rw [upd_ne (ne_of_none e h)]; exact x a u n m e
/-- a list that is new behind an older state changes -/
theorem PCtx.updL {H0 H : Hp} {b r pd : Addr} {p : Pl} {rm : Nat} {kt ft ut : Addr} {ks : List KRow} {fs : List FRow} {us : List URow} {root : Str} {nm kys fls : List Str} {ps : List PRow} {hp : Str → Nat} {rm0 : Nat} {la : Addr} {xs ys : List V} (c0 : PCtx H0 b r pd p rm0 kt ft ut ks fs us root nm kys fls ps hp) (c : PCtx H b r pd p rm kt ft ut ks fs us root nm kys fls ps hp) (n0 : H0 la = none) (e : H la = some (.lst xs)) : PCtx (upd H la (.lst ys)) b r pd p rm kt ft ut ks fs us root nm kys fls ps hp := by
  have nb := c0.B.neb n0
  have nr := c0.B.ner n0
  have st : ∀ {a : Addr} {o : HO}, a ≠ la → H a = some o → (L2.upd H la (.lst ys)) a = some o := fun n h => by rw [upd_ne n]; exact h
  have dk : ∀ {a : Addr} {kvs : List (Key × V)}, H a = some (.dK kvs) → (L2.upd H la (.lst ys)) a = some (.dK kvs) := fun h => st (ne_of h e (by intro z; cases z)) h
  have tup : ∀ {a : Addr} {zs : List V}, H a = some (.tup zs) → (L2.upd H la (.lst ys)) a = some (.tup zs) := fun h => st (ne_of h e (by intro z; cases z)) h
  exact ⟨c.B.upd nb nr, dk c.pl, tup c.sc, c.at_.gr (Oth.lst e) Gr.box, st (ne_of_none c0.nl n0) c.nl, st (ne_of_none c0.kl n0) c.kl, st (ne_of_none c0.fl n0) c.fl, dk c.pt, dk c.ht, c.n1, c.n2, c.n3, c.d1, c.d2, c.d3, c.d4, c.d5, c.d6⟩
theorem PCtx.ne {H : Hp} {b r pd : Addr} {p : Pl} {rm : Nat} {kt ft ut : Addr} {ks : List KRow} {fs : List FRow} {us : List URow} {root : Str} {nm kys fls : List Str} {ps : List PRow} {hp : Str → Nat} {la : Addr} (c : PCtx H b r pd p rm kt ft ut ks fs us root nm kys fls ps hp) (n0 : H la = none) : la ≠ b ∧ la ≠ pd := ⟨c.B.neb n0, (ne_of_none c.pl n0).symm⟩
theorem PCtx.tk {H H' : Hp} {b r pd : Addr} {p : Pl} {rm : Nat} {kt ft ut : Addr} {ks : List KRow} {fs : List FRow} {us : List URow} {root : Str} {nm kys fls : List Str} {ps : List PRow} {hp : Str → Nat} (c : PCtx H b r pd p rm kt ft ut ks fs us root nm kys fls ps hp) (g : G2 b pd H H') : Tk H H' := by
  obtain ⟨xs, e⟩ := c.B.lst
  exact G2.tk e c.pl g
/-! ### what is drawn -/
structure DrR (ks : List KRow) (fs : List FRow) (us : List URow) (ps : List PRow) (hp : Str → Nat) (fls : List Str) (z : Str) (n : Nat) (rows : List St) : Prop where
  len : rows.length ≤ 4
  fit : fitR ks fs (bsOf ks fs us) (fun x => x ∈ ps.map (·.nm)) z rows
  lv : lvR rows ≤ n
  ht : htR hp rows ≤ n
  fl : ∀ f ∈ flgR rows, f ∈ fls
structure DrS (ks : List KRow) (fs : List FRow) (us : List URow) (ps : List PRow) (hp : Str → Nat) (fls : List Str) (z : Str) (n : Nat) (t : St) : Prop where
  fit : fitS ks fs (bsOf ks fs us) (fun x => x ∈ ps.map (·.nm)) z t
  lv : lvS t ≤ n
  ht : htS hp t ≤ n
  fl : ∀ f ∈ flgS t, f ∈ fls
theorem lvR_snoc : ∀ (l : List St) (t : St), lvR (l ++ [t]) = max (lvR l) (lvS t)
  | [], t => by show max (lvS t) 0 = max 0 (lvS t); omega
  | s :: r, t => by
    have ih := lvR_snoc r t
    show max (lvS s) (lvR (r ++ [t])) = max (max (lvS s) (lvR r)) (lvS t)
    rw [ih]
    omega
theorem fitR_snoc {ks : List KRow} {fs : List FRow} {bs : List Str} {D : Str → Prop} {z : Str} {t : St} : ∀ {l : List St}, fitR ks fs bs D z l → fitS ks fs bs D z t → fitR ks fs bs D z (l ++ [t])
  | [], _, h => ⟨h, trivial⟩
  | _ :: _, a, h => ⟨a.1, fitR_snoc a.2 h⟩
section
variable {P : Program} {w : World} {K : PySem.W.Frag} {mg : Str → Option Value} {base : Heap}
def spLrows (n : Nat) : Sp := fun vs H Q _ => ∃ (b r pd : Addr) (p : Pl) (rm : Nat) (kt ft ut : Addr) (ks : List KRow) (fs : List FRow) (us : List URow) (root : Str) (nm kys fls : List Str) (ps : List PRow) (hp : Str → Nat) (z : Str), vs = [.ref b, .ref pd, .str z, .int (n : Int)] ∧ PCtx H b r pd p rm kt ft ut ks fs us root nm kys fls ps hp ∧ PFix ks fs us root nm kys fls ps ∧
  z ∈ bsOf ks fs us ∧ z ∉ [("number" : Str), ("text" : Str)] ∧ ∀ v rows rm' H', PCtx H' b r pd p rm' kt ft ut ks fs us root nm kys fls ps hp → G2 b pd H H' → RowAt H' v rows → DrR ks fs us ps hp fls z n rows → szR rows + rm' ≤ rm → Q v H'
/-- a statement at the height n, which is not 0 -/
def spLstmt (n : Nat) : Sp := fun vs H Q _ => ∃ (b r pd : Addr) (p : Pl) (rm : Nat) (kt ft ut : Addr) (ks : List KRow) (fs : List FRow) (us : List URow) (root : Str) (nm kys fls : List Str) (ps : List PRow) (hp : Str → Nat) (z : Str), vs = [.ref b, .ref pd, .str z, .int (n : Int)] ∧ 0 < n ∧ PCtx H b r pd p rm kt ft ut ks fs us root nm kys fls ps hp ∧ PFix ks fs us root nm kys fls ps ∧
  z ∈ bsOf ks fs us ∧ z ∉ [("number" : Str), ("text" : Str)] ∧ ∀ v t rm' H', PCtx H' b r pd p rm' kt ft ut ks fs us root nm kys fls ps hp → G2 b pd H H' → StAt H' v t → DrS ks fs us ps hp fls z n t → szS t + rm' ≤ rm + 1 → Q v H'
theorem ok_Lrows {f f1 f2 : Addr} {fd fd1 fd2 : FuncData} {n : Nat} (D : Df K mg "_law_rows" s_Lrows f fd ["_law_box_here", "_law_plan_here", "_law_base", "_law_high"]) (D_Ldraw : Df K mg "_law_draw" s_Ldraw f1 fd1 ["_law_box_here", "_law_many"]) (D_Lstatement : Df K mg "_law_statement" s_Lstatement f2 fd2 ["_law_box_here", "_law_plan_here", "_law_base", "_law_high"])
    (G_Lstatement : FnOk P w K mg base CX0 (2 * n + 3) f2 fd2 ["_law_box_here", "_law_plan_here", "_law_base", "_law_high"] (spLstmt n)) (T : Nms mg) : FnOk P w K mg base CX0 (2 * n + 4) f fd ["_law_box_here", "_law_plan_here", "_law_base", "_law_high"] (spLrows n) := by
  have G_Ldraw : FnOk P w K mg base CX0 1 f1 fd1 ["_law_box_here", "_law_many"] spLdraw := ok_Ldraw D_Ldraw T
  refine D.F.ok sc_Lrows (fun vs H Q E h => ?_) (fun cdv A outer s H vs Q E hr h => ?_)
  · obtain ⟨b, r, pd, p, rm, kt, ft, ut, ks, fs, us, root, nm, kys, fls, ps, hp, z, rfl, _⟩ := h
    rfl
  · obtain ⟨b, r, pd, p, rm, kt, ft, ut, ks, fs, us, root, nm, kys, fls, ps, hp, z, rfl, c, fx, hz, hzl, q⟩ := h
    have hu := hu_of hr
    refine ⟨_, (pss_cons (ps_set (i := 4) sc_Lrows.nd rfl (.inl rfl) (pe_lst pa_nil))
      (pss_cons (ps_for PassesOwn.never rfl (pi_range1 (by rfl) T.n_range (pa_cons (pe_ix ix_list (pe_lst (pa_cons pe_int (pa_cons pe_int (pa_cons pe_int (pa_cons pe_int (pa_cons pe_int (pa_cons pe_int (pa_cons pe_int (pa_cons pe_int pa_nil))))))))) (pe_call G_Ldraw (hr.mono (by omega)) (by rfl) D_Ldraw.g D_Ldraw.F.kp D_Ldraw.b .nil pass0 (pa_cons (pv 0) (pa_cons pe_int pa_nil))) (fun _ _ => rfl)) pa_nil)) (pg_name (i := 5) sc_Lrows.nd rfl (.inl rfl))
       (pss_one (ps_if (PW.pt (pw_and (pt_cmpR op_gt (pe_dget hu (pv 1) pe_str (fun _ _ => rfl)) pe_int (nomark _)) (pw_and1 (pt_cmpR op_gt (pv 3) pe_int (nomark _)))))
         (pss_cons (ps_dput hu (pv 1) pe_str (pe_op op_sub (pe_dget hu (pv 1) pe_str (fun _ _ => rfl)) pe_int) rfl)
          (pss_one (ps_expr (pe_bm PySem.F.plainAttrs_list PySem.F.slot_list_append PySem.F.type_list_append mt_append (pv 4) (pa_cons (pe_call G_Lstatement (hr.mono (by omega)) (by rfl) D_Lstatement.g D_Lstatement.F.kp D_Lstatement.b .nil pass0 (pa_cons (pv 0) (pa_cons (pv 1) (pa_cons (pv 2) (pa_cons (pv 3) pa_nil))))) pa_nil)))))
         pss_nil)))
      (pss_one (ps_ret (pe_callTy call_tuple_of (by rfl) T.n_tuple (by decide +kernel) (pa_cons (pv 4) pa_nil)))))), ?_⟩
    have hS : ∀ n : Nat, n ≤ 1000 → n ≤ sizeLine := fun n h => Nat.le_trans h (by decide)
    have lt : ∀ n : Nat, n ≤ 1000 → n < sizeLine := fun n h => Nat.lt_of_le_of_lt h (by decide)
    refine ⟨hS 0 (by decide), fun la nla => ?_⟩
    have s0 := same_new (o := .lst []) nla
    have c0 := c.same s0
    have e0 : (upd H la (.lst [])) la = some (.lst []) := upd_same
    obtain ⟨nlb, nld⟩ := c.ne nla
    generalize upd H la (.lst []) = H0 at s0 c0 e0
    refine ⟨hS 8 (by decide), fun cl ncl => ?_⟩
    have s1 := same_new (o := .lst [.int 1, .int 1, .int 2, .int 2, .int 3, .int 3, .int 4, .int 0]) ncl
    have c1 := c0.same s1
    have e1 : (upd H0 cl (.lst [.int 1, .int 1, .int 2, .int 2, .int 3, .int 3, .int 4, .int 0])) cl = some (.lst [.int 1, .int 1, .int 2, .int 2, .int 3, .int 3, .int 4, .int 0]) := upd_same
    have el := s1 _ _ e0
    have ncb := (c0.ne ncl).1
    generalize upd H0 cl (.lst [.int 1, .int 1, .int 2, .int 2, .int 3, .int 3, .int 4, .int 0]) = H1 at s1 c1 e1 el
    refine ⟨.ref b, rfl, b, r, 8, rfl, c1.B, by decide, by decide, fun d H2 d0 d1 g2 B2 => ?_⟩
    have c2 := c1.gr g2 B2
    have hm : ∃ m : Nat, m ≤ 4 ∧ atI [V.int 1, V.int 1, V.int 2, V.int 2, V.int 3, V.int 3, V.int 4, V.int 0] d = some (.int (m : Int)) := by
      obtain ⟨j, rfl⟩ := Int.eq_ofNat_of_zero_le d0
      have hj : j < 8 := by omega
      match j, hj with
      | 0, _ => exact ⟨1, by decide, rfl⟩
      | 1, _ => exact ⟨1, by decide, rfl⟩
      | 2, _ => exact ⟨2, by decide, rfl⟩
      | 3, _ => exact ⟨2, by decide, rfl⟩
      | 4, _ => exact ⟨3, by decide, rfl⟩
      | 5, _ => exact ⟨3, by decide, rfl⟩
      | 6, _ => exact ⟨4, by decide, rfl⟩
      | 7, _ => exact ⟨0, by decide, rfl⟩
    obtain ⟨m, m4, em⟩ := hm
    refine ⟨cl, _, _, .int (m : Int), rfl, rfl, SqL.of (g2 _ _ ncb e1), em, m, rfl, by omega, by omega, for_range (lo := 0) (n := m) (fun i σ H' => ∃ (y5 : Option V) (xs : List V) (rows : List St) (rm' : Nat), σ = [some (.ref b), some (.ref pd), some (.str z), some (.int (n : Int)), some (.ref la), y5] ∧ rows.length ≤ i ∧ PCtx H' b r pd p rm' kt ft ut ks fs us root nm kys fls ps hp ∧ G2 b pd H H' ∧ H' la = some (.lst xs) ∧ AllAt H' xs rows ∧
      fitR ks fs (bsOf ks fs us) (fun x => x ∈ ps.map (·.nm)) z rows ∧ lvR rows ≤ n ∧ htR hp rows ≤ n ∧ (∀ f ∈ flgR rows, f ∈ fls) ∧ szR rows + rm' ≤ rm) ?_ ?_ ?_⟩
    · exact ⟨none, [], [], rm, rfl, Nat.zero_le _, c2, ((Same.g2 s0).trans (Same.g2 s1)).trans g2.g2, g2 _ _ nlb el, .nil, trivial, Nat.zero_le _, Nat.zero_le _, (fun f m => nomatch m), by show 0 + rm ≤ rm; omega⟩
    · rintro i σ H3 hi ⟨y5, xs, rows, rm3, rfl, hl, c3, g3, e3, al, fit, lv, ht, fl, sz⟩
      have skip : ∃ (y5 : Option V) (xs : List V) (rows : List St) (rm' : Nat), [some (.ref b), some (.ref pd), some (.str z), some (.int (n : Int)), some (.ref la), some (.int (0 + (i : Int)))] = [some (.ref b), some (.ref pd), some (.str z), some (.int (n : Int)), some (.ref la), y5] ∧ rows.length ≤ i + 1 ∧ PCtx H3 b r pd p rm' kt ft ut ks fs us root nm kys fls ps hp ∧ G2 b pd H H3 ∧ H3 la = some (.lst xs) ∧ AllAt H3 xs rows ∧
        fitR ks fs (bsOf ks fs us) (fun x => x ∈ ps.map (·.nm)) z rows ∧ lvR rows ≤ n ∧ htR hp rows ≤ n ∧ (∀ f ∈ flgR rows, f ∈ fls) ∧ szR rows + rm' ≤ rm := ⟨_, xs, rows, rm3, rfl, by omega, c3, g3, e3, al, fit, lv, ht, fl, sz⟩
      refine ⟨.ref pd, rfl, pd, _, rfl, .inl ⟨plK p rm3, kK "room", .inl c3.pl, rfl, pl_room p rm3⟩, _, _, rfl, rfl, _, rfl, ite2 (fun h0 => ?_) (fun h0 => ?_)⟩
      · refine ⟨.int (n : Int), rfl, _, _, rfl, rfl, _, rfl, ite2 (fun h1 => ?_) (fun h1 => skip)⟩
        have hr0 : 0 < rm3 := by have := of_decide_eq_true h0; omega
        have hn0 : 0 < n := by have := of_decide_eq_true h1; omega
        have er : ((rm3 : Int) - 1) = ((rm3 - 1 : Nat) : Int) := by omega
        have dp : DPut H3 pd (V.str "room") (V.int ((rm3 : Int) - 1)) (upd H3 pd (.dK (plK p (rm3 - 1)))) := by
          rw [← plK_put p rm3 (rm3 - 1), ← er]
          exact DPut.k (k := kK "room") c3.pl (by show 8 < sizeLine; decide)
        refine ⟨.ref pd, rfl, pd, _, rfl, .inl ⟨plK p rm3, kK "room", .inl c3.pl, rfl, pl_room p rm3⟩, _, _, rfl, rfl, .ref pd, rfl, pd, _, rfl, dp, ?_⟩
        have c4 := c3.room (rm3 - 1)
        have g4 : G2 b pd H3 (upd H3 pd (.dK (plK p (rm3 - 1)))) := Gr.g2' Gr.box
        have e4 : (upd H3 pd (.dK (plK p (rm3 - 1)))) la = some (.lst xs) := by rw [upd_ne nld]; exact e3
        have al4 := al.tk (Tk.upd (o' := .dK (plK p (rm3 - 1))) c3.pl (fun _ z => nomatch z))
        generalize upd H3 pd (.dK (plK p (rm3 - 1))) = H4 at c4 g4 e4 al4
        refine ⟨.ref la, rfl, .inl ⟨rfl, _, SqL.of e4⟩, .ref b, rfl, .ref pd, rfl, .str z, rfl, .int (n : Int), rfl, b, r, pd, p, rm3 - 1, kt, ft, ut, ks, fs, us, root, nm, kys, fls, ps, hp, z, rfl, hn0, c4, fx, hz, hzl, fun v t rm5 H5 c5 g5 hv dr szt => ?_⟩
        have e5 := g5 _ _ nlb nld e4
        have al5 := al4.tk (c4.tk g5)
        have lx := al.len
        refine ⟨la, _, _, rfl, rfl, e5, lt _ (by omega), ?_⟩
        have k6 : Tk H5 (upd H5 la (.lst (xs ++ [v]))) := Tk.upd e5 (fun _ z => nomatch z)
        refine ⟨_, xs ++ [v], rows ++ [t], rm5, rfl, by rw [List.length_append]; show rows.length + 1 ≤ i + 1; omega, c.updL c5 nla e5, ((g3.trans g4).trans g5).upd nla, upd_same, (al5.tk k6).snoc (hv.tk k6), fitR_snoc fit dr.fit, by rw [lvR_snoc]; have := dr.lv; omega, by rw [htR_snoc]; have := dr.ht; omega, fun f mf => ?_, by rw [szR_app, szR_one]; omega⟩
        rw [flgR_app, flgR_one] at mf
        exact (List.mem_append.mp mf).elim (fl f) (dr.fl f)
      · exact skip
    · rintro σ H3 ⟨y5, xs, rows, rm3, rfl, hl, c3, g3, e3, al, fit, lv, ht, fl, sz⟩
      refine ⟨.ref la, rfl, la, xs, rfl, .inl ⟨SqL.of e3, fun tt ntt => ?_⟩⟩
      have s4 := same_new (o := .tup xs) ntt
      exact q _ rows rm3 _ (c3.same s4) (g3.trans (Same.g2 s4)) (.mk upd_same (al.same s4)) ⟨by omega, fit, lv, ht, fl⟩ sz
end
end NW
namespace NW
open PySem PySem.Spec PyProof.Rows L2
open TL (tl)
open StX (pa_star)

theorem pick {l : List Str} {d : Int} (h0 : 0 ≤ d) (h1 : d < ((l.map V.str).length : Int)) : ∃ z, z ∈ l ∧ atI (l.map V.str) d = some (.str z) := by
  obtain ⟨j, rfl⟩ := Int.eq_ofNat_of_zero_le h0
  rw [List.length_map] at h1
  have e : l[j]? = some (l[j]'(by omega)) := List.getElem?_eq_getElem _
  exact ⟨_, List.mem_of_getElem? e, atI_nat (by rw [List.getElem?_map, e]; rfl)⟩
theorem bs_names {ks : List KRow} {fs : List FRow} {us : List URow} {z : Str} (h : z ∈ bsOf ks fs us) (n : z ∉ [("number" : Str), ("text" : Str)]) : z ∈ ks.map (·.nm) ++ (fs.map (·.nm) ++ us.map (·.nm)) := (List.mem_append.mp h).resolve_left n
theorem names_bs {ks : List KRow} {fs : List FRow} {us : List URow} {z : Str} (h : z ∈ ks.map (·.nm) ++ (fs.map (·.nm) ++ us.map (·.nm))) : z ∈ bsOf ks fs us := List.mem_append_right _ h
theorem mem_ok {ks : List KRow} {fs : List FRow} {us : List URow} {root z : Str} {l : List Str} (ok : SchOk ks fs us root) (hz : z ∈ ks.map (·.nm) ++ (fs.map (·.nm) ++ us.map (·.nm))) (h : MemL ks us z l) : 0 < l.length ∧ ∀ x ∈ l, x ∈ ks.map (·.nm) := by
  obtain ⟨_, _, h⟩ := h
  rcases h with ⟨hk, rfl⟩ | ⟨hk, u, mu, rfl, pm⟩ | ⟨hk, hu, pm⟩
  · exact ⟨Nat.one_pos, fun x m => List.mem_singleton.mp m ▸ hk⟩
  · obtain ⟨_, h1, _, h2⟩ := ok.ud u mu
    exact ⟨by rw [pm.length_eq]; exact h1, fun x m => h2 x (pm.mem_iff.mp m)⟩
  · have hf : z ∈ fs.map (·.nm) := by
      rcases List.mem_append.mp hz with m | m
      · exact absurd m hk
      · rcases List.mem_append.mp m with m | m
        · exact m
        · exact absurd m hu
    obtain ⟨f, mf, rfl⟩ := List.mem_map.mp hf
    obtain ⟨k, mk, hin⟩ := ok.fk f mf
    have mem : k.nm ∈ l := pm.mem_iff.mpr (List.mem_map.mpr ⟨k, List.mem_filter.mpr ⟨mk, decide_eq_true hin⟩, rfl⟩)
    exact ⟨List.length_pos_of_mem mem, fun x m => by
      obtain ⟨k2, mk2, e⟩ := List.mem_map.mp (pm.mem_iff.mp m)
      exact List.mem_map.mpr ⟨k2, (List.mem_filter.mp mk2).1, e⟩⟩
theorem okS_tgt {l : List Str} : ∀ {s : Shp} {n : Nat} {o : Bool}, okS l n o s → s.tgt ∈ l
  | .base _, 0, _, h => h
  | .base _, _ + 1, _, h => h
  | .sure s, 0, _, h => h.elim
  | .sure s, n + 1, _, h => okS_tgt (s := s) h.2
  | .list s, 0, _, h => h.elim
  | .list s, n + 1, _, h => okS_tgt (s := s) h
theorem fds_name {ks : List KRow} {fs : List FRow} {us : List URow} {root z : Str} {fds : List Fld} (ok : SchOk ks fs us root) (h : FdsOf ks fs z fds) : ∀ f ∈ fds, IsName f.1 := by
  rcases h with ⟨k, mk, _, rfl⟩ | ⟨_, f, mf, _, rfl⟩ | ⟨_, _, rfl⟩
  · exact (ok.kd k mk).nm
  · exact (ok.fd f mf).nm
  · exact fun _ m => nomatch m
theorem fds_nm {ks : List KRow} {fs : List FRow} {us : List URow} {root z : Str} {fds : List Fld} {nm : List Str} (ok : SchOk ks fs us root) (nc : ∀ k ∈ ks, ∀ f ∈ k.fds, f.1 ∈ nm) (h : FdsOf ks fs z fds) : ∀ f ∈ fds, f.1 ∈ nm := by
  rcases h with ⟨k, mk, _, rfl⟩ | ⟨_, f, mf, _, rfl⟩ | ⟨_, _, rfl⟩
  · exact nc k mk
  · intro x mx
    obtain ⟨k, mk, hin⟩ := ok.fk f mf
    obtain ⟨y, my, e, _⟩ := ok.ff f mf k mk hin x mx
    rw [← e]
    exact nc k mk y my
  · exact fun _ m => nomatch m
theorem ibF_of {ks : List KRow} {fs : List FRow} {us : List URow} {root z : Str} {fl : Fld} (ok : SchOk ks fs us root) (m : fl ∈ fdsAt ks fs z) : ibF ks fs z fl.1 = fl.2.2.tgt := by
  unfold ibF
  rw [find_is (f := fun fl : Fld => fl.1) ((fds_ex (ks := ks) (fs := fs) (z := z)).nd ok) m]
theorem first_at {l : List Str} {z : Str} (h : z ∈ l) : ∃ j : Nat, l[j]? = some z ∧ ∀ (k : Nat) (z' : Str), k < j → l[k]? = some z' → ¬ z' = z := by
  induction l with
  | nil => cases h
  | cons a r ih =>
    by_cases e : a = z
    · exact ⟨0, by rw [e]; rfl, fun k z' hk => absurd hk (Nat.not_lt_zero _)⟩
    · obtain ⟨j, e1, e2⟩ := ih ((List.mem_cons.mp h).resolve_left fun z => e z.symm)
      refine ⟨j + 1, by simpa using e1, fun k z' hk ek => ?_⟩
      cases k with
      | zero => cases ek; exact e
      | succ k => exact e2 k z' (by omega) (by simpa using ek)
section
variable {P : Program} {w : World} {K : PySem.W.Frag} {mg : Str → Option Value} {base : Heap}
theorem ok_Lstatement {f f1 f2 f3 f4 f5 f6 f7 : Addr} {fd fd1 fd2 fd3 fd4 fd5 fd6 fd7 : FuncData} {m : Nat} (D : Df K mg "_law_statement" s_Lstatement f fd ["_law_box_here", "_law_plan_here", "_law_base", "_law_high"]) (D_Ldraw : Df K mg "_law_draw" s_Ldraw f1 fd1 ["_law_box_here", "_law_many"])
    (D_Ltable : Df K mg "_law_table" s_Ltable f2 fd2 ["_law_schema_here", "_law_base"]) (D_Lbases : Df K mg "_law_bases" s_Lbases f3 fd3 ["_law_schema_here"]) (D_Lmembers : Df K mg "_law_members" s_Lmembers f4 fd4 ["_law_schema_here", "_law_base"]) (D_Lkey : Df K mg "_law_key" s_Lkey f5 fd5 ["_law_box_here", "_law_plan_here", "_law_at"]) (D_Ltarget : Df K mg "_law_target" s_Ltarget f6 fd6 ["_law_shape_here"])
    (D_Lrows : Df K mg "_law_rows" s_Lrows f7 fd7 ["_law_box_here", "_law_plan_here", "_law_base", "_law_high"]) (G_Lrows : FnOk P w K mg base CX0 (2 * m + 4) f7 fd7 ["_law_box_here", "_law_plan_here", "_law_base", "_law_high"] (spLrows m)) (T : Nms mg) :
    FnOk P w K mg base CX0 (2 * m + 5) f fd ["_law_box_here", "_law_plan_here", "_law_base", "_law_high"] (spLstmt (m + 1)) := by
  have G_Ldraw : FnOk P w K mg base CX0 1 f1 fd1 ["_law_box_here", "_law_many"] spLdraw := ok_Ldraw D_Ldraw T
  have G_Ltable : FnOk P w K mg base CX0 1 f2 fd2 ["_law_schema_here", "_law_base"] spLtable := ok_Ltable D_Ltable T
  have G_Lbases : FnOk P w K mg base CX0 1 f3 fd3 ["_law_schema_here"] spLbases := ok_Lbases D_Lbases T
  have G_Lmembers : FnOk P w K mg base CX0 1 f4 fd4 ["_law_schema_here", "_law_base"] spLmembers := ok_Lmembers D_Lmembers T
  have G_Lkey : FnOk P w K mg base CX0 2 f5 fd5 ["_law_box_here", "_law_plan_here", "_law_at"] spLkey := ok_Lkey D_Lkey D_Ldraw T
  have G_Ltarget : FnOk P w K mg base CX0 1 f6 fd6 ["_law_shape_here"] spLtarget := ok_Ltarget D_Ltarget T
  refine D.F.ok sc_Lstatement (fun vs H Q E h => ?_) (fun cdv A outer s H vs Q E hr h => ?_)
  · obtain ⟨b, r, pd, p, rm, kt, ft, ut, ks, fs, us, root, nm, kys, fls, ps, hp, z, rfl, _⟩ := h
    rfl
  · obtain ⟨b, r, pd, p, rm, kt, ft, ut, ks, fs, us, root, nm, kys, fls, ps, hp, z, rfl, _, c, fx, hz, hzl, q⟩ := h
    have hu := hu_of hr
    refine ⟨_, (pss_cons (ps_set (i := 4) sc_Lstatement.nd rfl (.inl rfl) (pe_dget hu (pv 1) pe_str (fun _ _ => rfl)))
      (pss_cons (ps_set (i := 5) sc_Lstatement.nd rfl (.inl rfl) (pe_call G_Ldraw (hr.mono (by omega)) (by rfl) D_Ldraw.g D_Ldraw.F.kp D_Ldraw.b .nil pass0 (pa_cons (pv 0) (pa_cons pe_int pa_nil))))
      (pss_cons (ps_set (i := 6) sc_Lstatement.nd rfl (.inl rfl) (pe_callB (call_sortedD rfl) (by rfl) T.n_sorted (by decide +kernel) (pa_cons (pe_call G_Ltable (hr.mono (by omega)) (by rfl) D_Ltable.g D_Ltable.F.kp D_Ltable.b .nil pass0 (pa_cons (pv 4) (pa_cons (pv 2) pa_nil))) pa_nil)))
      (pss_cons (ps_if (PW.pt (pw_or (PW.pt (pw_and (pt_cmpR op_lt (pv 5) pe_int (nomark _)) (pw_and1 (pt_cmpR op_gt (pv 3) pe_int (nomark _))))) (pw_or1 (PW.pt (pw_and (pt_cmpR (op_eqD hr.units) (pv 6) (pe_lst pa_nil) (nomark _)) (pw_and (pt_cmpR op_lt (pv 5) pe_int (nomark _)) (pw_and1 (pt_cmpR op_gt (pv 3) pe_int (nomark _)))))))))
       (pss_cons (ps_set (i := 7) sc_Lstatement.nd rfl (.inl rfl) (pe_call G_Lbases (hr.mono (by omega)) (by rfl) D_Lbases.g D_Lbases.F.kp D_Lbases.b .nil pass0 (pa_cons (pv 4) pa_nil)))
        (pss_cons (ps_set (i := 8) sc_Lstatement.nd rfl (.inl rfl) (pe_ix ix_list (pv 7) (pe_call G_Ldraw (hr.mono (by omega)) (by rfl) D_Ldraw.g D_Ldraw.F.kp D_Ldraw.b .nil pass0 (pa_cons (pv 0) (pa_cons (pe_callB call_len_seq (by rfl) T.n_len (by decide +kernel) (pa_cons (pv 7) pa_nil)) pa_nil))) (fun _ _ => rfl)))
        (pss_cons (ps_if (pt_cmpR op_eq (pe_call G_Ldraw (hr.mono (by omega)) (by rfl) D_Ldraw.g D_Ldraw.F.kp D_Ldraw.b .nil pass0 (pa_cons (pv 0) (pa_cons pe_int pa_nil))) pe_int (nomark _))
         (pss_cons (ps_set (i := 9) sc_Lstatement.nd rfl (.inl rfl) (pe_call G_Lmembers (hr.mono (by omega)) (by rfl) D_Lmembers.g D_Lmembers.F.kp D_Lmembers.b .nil pass0 (pa_cons (pv 4) (pa_cons (pv 2) pa_nil))))
          (pss_one (ps_set (i := 8) sc_Lstatement.nd rfl (.inl rfl) (pe_ix ix_list (pv 9) (pe_call G_Ldraw (hr.mono (by omega)) (by rfl) D_Ldraw.g D_Ldraw.F.kp D_Ldraw.b .nil pass0 (pa_cons (pv 0) (pa_cons (pe_callB call_len_seq (by rfl) T.n_len (by decide +kernel) (pa_cons (pv 9) pa_nil)) pa_nil))) (fun _ _ => rfl)))))
         pss_nil)
        (pss_one (ps_ret (pe_tup (pa_cons pe_str (pa_cons (pv 8) (pa_cons (pe_call G_Lrows (hr.mono (by omega)) (by rfl) D_Lrows.g D_Lrows.F.kp D_Lrows.b .nil pass0 (pa_cons (pv 0) (pa_cons (pv 1) (pa_cons (pv 8) (pa_cons (pe_op op_sub (pv 3) pe_int) pa_nil))))) pa_nil)))))))))
       pss_nil)
      (pss_cons (ps_if (PW.pt (pw_and (pt_cmpR op_eq (pv 5) pe_int (nomark _)) (pw_and1 (pt_cmpR op_gt (pv 3) pe_int (nomark _)))))
       (pss_cons (ps_set (i := 10) sc_Lstatement.nd rfl (.inl rfl) (pe_ix ix_list (pe_dget hu (pv 1) pe_str (fun _ _ => rfl)) (pe_call G_Ldraw (hr.mono (by omega)) (by rfl) D_Ldraw.g D_Ldraw.F.kp D_Ldraw.b .nil pass0 (pa_cons (pv 0) (pa_cons pe_int pa_nil))) (fun _ _ => rfl)))
        (pss_cons (ps_set (i := 11) sc_Lstatement.nd rfl (.inl rfl) (pe_cmpR op_eq (pe_call G_Ldraw (hr.mono (by omega)) (by rfl) D_Ldraw.g D_Ldraw.F.kp D_Ldraw.b .nil pass0 (pa_cons (pv 0) (pa_cons pe_int pa_nil))) pe_int (nomark _)))
        (pss_one (ps_ret (pe_tup (pa_cons pe_str (pa_cons (pv 10) (pa_cons (pv 11) (pa_cons (pe_call G_Lrows (hr.mono (by omega)) (by rfl) D_Lrows.g D_Lrows.F.kp D_Lrows.b .nil pass0 (pa_cons (pv 0) (pa_cons (pv 1) (pa_cons (pv 2) (pa_cons (pe_op op_sub (pv 3) pe_int) pa_nil))))) pa_nil)))))))))
       pss_nil)
      (pss_cons (ps_setLc (i := 12) (own := [("_law_word", 15)]) (g := (gName 15)) rfl sc_Lstatement.nd rfl rfl (sw_true rfl rfl rfl (by decide +kernel)) (pi_list (pe_callB (call_sortedD rfl) (by rfl) T.n_sorted (by decide +kernel) (pa_cons (pe_dget hu (pv 1) pe_str (fun _ _ => rfl)) pa_nil))) (blkOk_by (own := [("_law_word", 15)]) (N := N_Lstatement) (sc := defScope s_Lstatement) (by decide +kernel)) (fun _ _ _ _ _ => (pg_name (i := 15) sc_Lstatement.nd rfl (.inl rfl))) (fun _ _ _ _ _ => pts_one (pt_cmpR op_lt (pe_dget hu (pe_dget hu (pv 1) pe_str (fun _ _ => rfl)) (pv 15) (fun _ _ => rfl)) (pv 3) (nomark _))) (fun _ _ _ _ _ => (pv 15)))
      (pss_cons (ps_if (PW.pt (pw_and (pt_cmpR op_eq (pv 5) pe_int (nomark _)) (pw_and1 (pt_cmpR (op_neD hr.units) (pv 12) (pe_lst pa_nil) (nomark _)))))
       (pss_one (ps_ret (pe_tup (pa_cons pe_str (pa_cons (pe_ix ix_list (pv 12) (pe_call G_Ldraw (hr.mono (by omega)) (by rfl) D_Ldraw.g D_Ldraw.F.kp D_Ldraw.b .nil pass0 (pa_cons (pv 0) (pa_cons (pe_callB call_len_seq (by rfl) T.n_len (by decide +kernel) (pa_cons (pv 12) pa_nil)) pa_nil))) (fun _ _ => rfl)) pa_nil)))))
       pss_nil)
      (pss_cons (ps_if (PW.pt (pw_or (pt_cmpR op_eq (pv 5) pe_int (nomark _)) (pw_or1 (pt_cmpR (op_eqD hr.units) (pv 6) (pe_lst pa_nil) (nomark _)))))
       (pss_one (ps_ret (pe_tup (pa_cons pe_str (pa_cons (pe_call G_Lkey (hr.mono (by omega)) (by rfl) D_Lkey.g D_Lkey.F.kp D_Lkey.b .nil pass0 (pa_cons (pv 0) (pa_cons (pv 1) (pa_cons pe_int pa_nil)))) pa_nil)))))
       pss_nil)
      (pss_cons (ps_set (i := 13) sc_Lstatement.nd rfl (.inl rfl) (pe_ix ix_list (pv 6) (pe_call G_Ldraw (hr.mono (by omega)) (by rfl) D_Ldraw.g D_Ldraw.F.kp D_Ldraw.b .nil pass0 (pa_cons (pv 0) (pa_cons (pe_callB call_len_seq (by rfl) T.n_len (by decide +kernel) (pa_cons (pv 6) pa_nil)) pa_nil))) (fun _ _ => rfl)))
      (pss_cons (ps_set (i := 14) sc_Lstatement.nd rfl (.inl rfl) (pe_call G_Ltarget (hr.mono (by omega)) (by rfl) D_Ltarget.g D_Ltarget.F.kp D_Ltarget.b .nil pass0 (pa_cons (pe_dget hu (pe_call G_Ltable (hr.mono (by omega)) (by rfl) D_Ltable.g D_Ltable.F.kp D_Ltable.b .nil pass0 (pa_cons (pv 4) (pa_cons (pv 2) pa_nil))) (pv 13) (fun _ _ => rfl)) pa_nil)))
      (pss_cons (ps_set (i := 8) sc_Lstatement.nd rfl (.inl rfl) (pe_tup pa_nil))
      (pss_cons (ps_if (PW.pt (pw_and (pt_cmpR op_ne (pv 14) pe_str (nomark _)) (pw_and1 (pt_cmpR op_ne (pv 14) pe_str (nomark _)))))
       (pss_one (ps_set (i := 8) sc_Lstatement.nd rfl (.inl rfl) (pe_call G_Lrows (hr.mono (by omega)) (by rfl) D_Lrows.g D_Lrows.F.kp D_Lrows.b .nil pass0 (pa_cons (pv 0) (pa_cons (pv 1) (pa_cons (pv 14) (pa_cons (pe_op op_sub (pv 3) pe_int) pa_nil)))))))
       pss_nil)
      (pss_one (ps_ret (pe_tup (pa_cons pe_str (pa_cons (pv 13) (pa_cons (pe_call G_Lkey (hr.mono (by omega)) (by rfl) D_Lkey.g D_Lkey.F.kp D_Lkey.b .nil pass0 (pa_cons (pv 0) (pa_cons (pv 1) (pa_cons (pe_bm PySem.F.plainAttrs_list PySem.F.slot_list_index PySem.F.type_list_index mt_index (pe_dget hu (pv 1) pe_str (fun _ _ => rfl)) (pa_cons (pv 13) pa_nil)) pa_nil)))) (pa_cons (pv 8) pa_nil))))))))))))))))))), ?_⟩
    have hS : ∀ n : Nat, n ≤ 1000 → n ≤ sizeLine := fun n h => Nat.le_trans h (by decide)
    have lt : ∀ n : Nat, n ≤ 1000 → n < sizeLine := fun n h => Nat.lt_of_le_of_lt h (by decide)
    have ok := fx.ok
    have hm1 : ((m + 1 : Nat) : Int) - 1 = (m : Int) := by omega
    have hzn := bs_names hz hzl
    refine ⟨.ref pd, rfl, pd, _, rfl, .inl ⟨plK p rm, kK "schema", .inl (c.pl), rfl, pl_schema p rm⟩, .ref b, rfl, b, r, 9, rfl, c.B, by decide, by decide, fun ch H1 _ _ g1 B1 => ?_⟩
    have c1 := c.gr g1 B1
    refine ⟨.ref p.q, rfl, .str z, rfl, p.q, kt, ft, ut, ks, fs, us, root, z, rfl, c1.t ok, fun fds d H2 hf hsh s2 ed => ?_⟩
    have efds := fds_eq ok hf
    subst efds
    have few := hf.few ok
    refine ⟨d, fkv (fdsAt ks fs z), _, rfl, .inl ed, fkv_keys _, by rw [List.length_map]; omega, fun fl pf fpm _ npf => ?_⟩
    have s3 := same_new (o := .lst (fl.map V.str)) npf
    have c3 := (c1.same s2).same s3
    have g3 : G2 b pd H (upd H2 pf (.lst (fl.map V.str))) := (g1.g2.trans (Same.g2 s2)).trans (Same.g2 s3)
    have ef3 : (upd H2 pf (.lst (fl.map V.str))) pf = some (.lst (fl.map V.str)) := upd_same
    obtain ⟨nfb, nfd⟩ := (c1.same s2).ne npf
    generalize upd H2 pf (.lst (fl.map V.str)) = H3 at s3 c3 g3 ef3
    have flN : ∀ x ∈ fl, IsName x := fun x mx => by
      obtain ⟨y, my, e⟩ := List.mem_map.mp (fpm.mem_iff.mp mx)
      rw [← e]
      exact fds_name ok hf y my
    have fln : fl.length ≤ 5 := by rw [fpm.length_eq, List.length_map]; exact few
    clear hsh ed s2 s3 npf c1 g1 B1
    -- == [] of a list of names
    have isnil : ∀ {H' : Hp} {l : List Str} {a e0 : Addr} {Q' : VK}, (∀ x ∈ l, IsName x) → H' a = some (.lst (l.map V.str)) → H' e0 = some (.lst []) → Q' (.bl (l.length == 0)) H' → rEqD K (.ref a) (.ref e0) H' Q' := fun hl ha he q' => by
      refine ⟨.list (_root_.List.map PyData.str _), .list [], .lst (SqL.of ha) (dp_strs _), .lst (SqL.of he) .nil, shaped_strs hl, shaped_strs (l := []) (fun z m => nomatch m), ?_⟩
      rw [eqv_nil]
      exact q'
    have isnot : ∀ {H' : Hp} {l : List Str} {a e0 : Addr} {Q' : VK}, (∀ x ∈ l, IsName x) → H' a = some (.lst (l.map V.str)) → H' e0 = some (.lst []) → Q' (.bl (!(l.length == 0))) H' → rNeD K (.ref a) (.ref e0) H' Q' := fun hl ha he q' => by
      refine ⟨.list (_root_.List.map PyData.str _), .list [], .lst (SqL.of ha) (dp_strs _), .lst (SqL.of he) .nil, shaped_strs hl, shaped_strs (l := []) (fun z m => nomatch m), ?_⟩
      rw [eqv_nil]
      exact q'
    -- the end of each way
    have done : ∀ {H' : Hp} {vs : List V} {t : St} {rm' : Nat}, PCtx H' b r pd p rm' kt ft ut ks fs us root nm kys fls ps hp → G2 b pd H H' → (∀ (tt : Addr) G, Same H' G → G tt = some (.tup vs) → StAt G (.ref tt) t) → DrS ks fs us ps hp fls z (m + 1) t → szS t + rm' ≤ rm + 1 → ∀ tt, H' tt = none → Q (.ref tt) (upd H' tt (.tup vs)) := fun c' g' mk dr sz tt ntt =>
      q _ _ _ _ (c'.same (same_new ntt)) (g'.trans (Same.g2 (same_new ntt))) (mk tt _ (same_new ntt) upd_same) dr sz
    -- "on"
    dsimp only
    refine gNm ?_
    refine cutS (fun σ' H' => σ' = [some (.ref b), some (.ref pd), some (.str z), some (.int ((m + 1 : Nat) : Int)), some (.ref p.q), some (.int ch), some (.ref pf), none, none, none, none, none, none, none, none, none] ∧ PCtx H' b r pd p rm kt ft ut ks fs us root nm kys fls ps hp ∧ G2 b pd H H' ∧ H' pf = some (.lst (fl.map V.str)))
      (fun σ' H' => σ' = [some (.ref b), some (.ref pd), some (.str z), some (.int ((m + 1 : Nat) : Int)), some (.ref p.q), some (.int ch), some (.ref pf), none, none, none, none, none, none, none, none, none] ∧ PCtx H' b r pd p rm kt ft ut ks fs us root nm kys fls ps hp ∧ G2 b pd H H' ∧ H' pf = some (.lst (fl.map V.str))) ?_ ?_ ?_
    · rintro σ' H4 ⟨rfl, c4, g4, ef4⟩
      refine ⟨.ref p.q, rfl, p.q, kt, ft, ut, ks, fs, us, root, rfl, c4.t ok, fun bl pb H5 bpm s5 npb eb => ?_⟩
      have c5 := c4.same s5
      have bln : bl.length = ks.length + fs.length + us.length := by rw [bpm.length_eq, List.length_append, List.length_append, List.length_map, List.length_map, List.length_map]
      have k0 := ok.k0
      have k1 := ok.k1
      have f1' := ok.f1
      have u1' := ok.u1
      obtain ⟨nbb, nbd⟩ := c4.ne npb
      refine ⟨.ref pb, rfl, .ref b, rfl, .ref pb, rfl, pb, _, rfl, .inl (SqL.of eb), b, r, _, rfl, c5.B, by rw [List.length_map]; omega, by rw [List.length_map]; omega, fun d5 H6 d50 d51 g6 B6 => ?_⟩
      obtain ⟨z1, mz1, ez1⟩ := pick d50 d51
      have hz1 : z1 ∈ ks.map (·.nm) ++ (fs.map (·.nm) ++ us.map (·.nm)) := by
        have := bpm.mem_iff.mp mz1
        rw [List.append_assoc] at this
        exact this
      have c6 := c5.gr g6 B6
      have eb6 := g6 _ _ nbb eb
      refine ⟨pb, _, _, .str z1, rfl, rfl, SqL.of eb6, ez1, ?_⟩
      dsimp only
      refine gNm ?_
      refine cut1 (fun σ' H' => ∃ (z1 : Str) (y9 : Option V), σ' = [some (.ref b), some (.ref pd), some (.str z), some (.int ((m + 1 : Nat) : Int)), some (.ref p.q), some (.int ch), some (.ref pf), some (.ref pb), some (.str z1), y9, none, none, none, none, none, none] ∧ z1 ∈ ks.map (·.nm) ++ (fs.map (·.nm) ++ us.map (·.nm)) ∧ PCtx H' b r pd p rm kt ft ut ks fs us root nm kys fls ps hp ∧ G2 b pd H H') ?_ ?_
      · rintro σ' H7 ⟨z1, y9, rfl, hz1, c7, g7⟩
        refine ⟨.str z1, rfl, .ref b, rfl, .ref pd, rfl, .str z1, rfl, .int _, rfl, _, _, rfl, rfl, b, r, pd, p, rm, kt, ft, ut, ks, fs, us, root, nm, kys, fls, ps, hp, z1, congrArg (fun i => [V.ref b, V.ref pd, V.str z1, V.int i]) hm1, c7, fx, names_bs hz1, ok.lv hz1, fun v rows rm8 H8 c8 g8 hrow dr sz => ⟨hS 3 (by decide), ?_⟩⟩
        have ln := dr.len
        have lv := dr.lv
        have ht := dr.ht
        exact done (t := .on z1 rows) c8 (g7.trans g8) (fun tt G sG e => .on e (hrow.same sG)) ⟨⟨names_bs hz1, ok.lv hz1, by omega, dr.fit⟩, by show 1 + lvR rows ≤ m + 1; omega, by show 1 + htR hp rows ≤ m + 1; omega, dr.fl⟩ (by show 1 + szR rows + rm8 ≤ rm + 1; omega)
      · intro rest
        refine ⟨.ref b, rfl, b, r, 2, rfl, c6.B, by decide, by decide, fun d7 H7 _ _ g7 B7 => ⟨rfl, _, rfl, ite2 (fun _ => ?_) (fun _ => ?_)⟩⟩
        · have c7 := c6.gr g7 B7
          refine ⟨.ref p.q, rfl, .str z, rfl, p.q, kt, ft, ut, ks, fs, us, root, z, rfl, c7.t ok, fun ol po H8 mem s8 npo eo => ?_⟩
          obtain ⟨ol0, olk⟩ := mem_ok ok hzn mem
          have ol6 := mem.2.1
          obtain ⟨nob, _⟩ := c7.ne npo
          have c8 := c7.same s8
          refine ⟨.ref po, rfl, .ref b, rfl, .ref po, rfl, po, _, rfl, .inl (SqL.of eo), b, r, _, rfl, c8.B, by rw [List.length_map]; omega, by rw [List.length_map]; omega, fun d9 H9 d90 d91 g9 B9 => ?_⟩
          obtain ⟨z2, mz2, ez2⟩ := pick d90 d91
          exact ⟨po, _, _, .str z2, rfl, rfl, SqL.of (g9 _ _ nob eo), ez2, rest _ _ ⟨z2, _, rfl, List.mem_append_left _ (olk z2 mz2), c8.gr g9 B9, ((((g4.trans (Same.g2 s5)).trans g6.g2).trans g7.g2).trans (Same.g2 s8)).trans g9.g2⟩⟩
        · exact rest _ _ ⟨z1, _, rfl, hz1, c6.gr g7 B7, ((g4.trans (Same.g2 s5)).trans g6.g2).trans g7.g2⟩
    rotate_left
    · intro hT hE
      have toE : ∀ H', Same H3 H' → PCtx H' b r pd p rm kt ft ut ks fs us root nm kys fls ps hp ∧ G2 b pd H H' ∧ H' pf = some (.lst (fl.map V.str)) := fun H' s => ⟨c3.same s, g3.trans (Same.g2 s), s _ _ ef3⟩
      refine ⟨.int ch, rfl, _, _, rfl, rfl, _, rfl, ite2 (fun e1 => ?_) (fun e1 => ?_)⟩
      · refine ⟨.int _, rfl, _, _, rfl, rfl, _, rfl, ite2 (fun e2 => hT _ _ ⟨rfl, toE _ (Same.refl _)⟩) (fun e2 => ?_)⟩
        refine ⟨.ref pf, rfl, hS 0 (by decide), fun e0 ne0 => isnil flN ((same_new ne0) _ _ ef3) upd_same ⟨_, rfl, ite2 (fun e3 => ?_) (fun e3 => hE _ _ ⟨rfl, toE _ (same_new ne0)⟩)⟩⟩
        refine ⟨.int ch, rfl, _, _, rfl, rfl, _, rfl, ite2 (fun e4 => ?_) (fun e4 => hE _ _ ⟨rfl, toE _ (same_new ne0)⟩)⟩
        exact ⟨.int _, rfl, _, _, rfl, rfl, _, rfl, ite2 (fun e5 => hT _ _ ⟨rfl, toE _ (same_new ne0)⟩) (fun e5 => hE _ _ ⟨rfl, toE _ (same_new ne0)⟩)⟩
      · refine ⟨.ref pf, rfl, hS 0 (by decide), fun e0 ne0 => isnil flN ((same_new ne0) _ _ ef3) upd_same ⟨_, rfl, ite2 (fun e3 => ?_) (fun e3 => hE _ _ ⟨rfl, toE _ (same_new ne0)⟩)⟩⟩
        refine ⟨.int ch, rfl, _, _, rfl, rfl, _, rfl, ite2 (fun e4 => ?_) (fun e4 => hE _ _ ⟨rfl, toE _ (same_new ne0)⟩)⟩
        exact ⟨.int _, rfl, _, _, rfl, rfl, _, rfl, ite2 (fun e5 => hT _ _ ⟨rfl, toE _ (same_new ne0)⟩) (fun e5 => hE _ _ ⟨rfl, toE _ (same_new ne0)⟩)⟩
    rintro σ' H4 ⟨rfl, c4, g4, ef4⟩
    clear c3 g3 ef3
    -- "if"
    dsimp only [tNext]
    refine cutS (fun σ' H' => σ' = [some (.ref b), some (.ref pd), some (.str z), some (.int ((m + 1 : Nat) : Int)), some (.ref p.q), some (.int ch), some (.ref pf), none, none, none, none, none, none, none, none, none] ∧ H' = H4)
      (fun σ' H' => σ' = [some (.ref b), some (.ref pd), some (.str z), some (.int ((m + 1 : Nat) : Int)), some (.ref p.q), some (.int ch), some (.ref pf), none, none, none, none, none, none, none, none, none] ∧ H' = H4) ?_ ?_ ?_
    · rintro σ' H' ⟨rfl, rfl⟩
      refine ⟨.ref pd, rfl, pd, _, rfl, .inl ⟨plK p rm, kK "flags", .inl (c4.pl), rfl, pl_flags p rm⟩, .ref b, rfl, b, r, 3, rfl, c4.B, by decide, by decide, fun d5 H5 d50 d51 g5 B5 => ?_⟩
      have c5 := c4.gr g5 B5
      obtain ⟨f1', mf1, ef1⟩ := pick (l := fls) d50 (by rw [List.length_map, fx.f3]; exact d51)
      refine ⟨p.fl, _, _, .str f1', rfl, rfl, SqL.of c5.fl, ef1, .ref b, rfl, b, r, 2, rfl, c5.B, by decide, by decide, fun d6 H6 _ _ g6 B6 => ⟨rfl, ?_⟩⟩
      have c6 := c5.gr g6 B6
      generalize decide (V.int d6 = V.int 1) = wb
      refine ⟨.str f1', rfl, .bl wb, rfl, .ref b, rfl, .ref pd, rfl, .str z, rfl, .int _, rfl, _, _, rfl, rfl, b, r, pd, p, rm, kt, ft, ut, ks, fs, us, root, nm, kys, fls, ps, hp, z, congrArg (fun i => [V.ref b, V.ref pd, V.str z, V.int i]) hm1, c6, fx, hz, hzl, fun v rows rm8 H8 c8 g8 hrow dr sz => ⟨hS 4 (by decide), ?_⟩⟩
      have ln := dr.len
      have lv := dr.lv
      have ht := dr.ht
      refine done (t := .iff f1' wb rows) c8 (((g4.trans g5.g2).trans g6.g2).trans g8) (fun tt G sG e => .iff e (hrow.same sG)) ⟨⟨fx.fn f1' mf1, by omega, dr.fit⟩, by show 1 + lvR rows ≤ m + 1; omega, by show 1 + htR hp rows ≤ m + 1; omega, fun x mx => ?_⟩ (by show 1 + szR rows + rm8 ≤ rm + 1; omega)
      rcases List.mem_cons.mp mx with rfl | mx
      · exact mf1
      · exact dr.fl x mx
    rotate_left
    · intro hT hE
      exact ⟨.int ch, rfl, rfl, _, rfl, ite2 (fun _ => ⟨.int _, rfl, _, _, rfl, rfl, _, rfl, ite2 (fun _ => hT _ _ ⟨rfl, rfl⟩) (fun _ => hE _ _ ⟨rfl, rfl⟩)⟩) (fun _ => hE _ _ ⟨rfl, rfl⟩)⟩
    rintro σ' H' ⟨rfl, rfl⟩
    dsimp only [tNext]
    -- the words
    have p4 := fx.p4
    refine ⟨.ref pd, rfl, pd, _, rfl, .inl ⟨plK p rm, kK "parts", .inl (c4.pl), rfl, pl_parts p rm⟩, p.pt, ptv ps, ps.map (·.nm), rfl, .inl c4.pt, ptv_keys ps, by rw [List.length_map]; omega, fun ns p1 pm _ np1 => ⟨p1, rfl, ⟨_, SqL.of upd_same⟩, fun Da nD => ?_⟩⟩
    have s5 := same_new (o := .lst (ns.map V.str)) np1
    have c5 := c4.same s5
    have e15 : (upd H' p1 (.lst (ns.map V.str))) p1 = some (.lst (ns.map V.str)) := upd_same
    have g5 := g4.trans (Same.g2 s5)
    have ef5 := s5 _ _ ef4
    generalize upd H' p1 (.lst (ns.map V.str)) = H5 at s5 c5 e15 g5 ef5 nD
    clear c4 g4 ef4
    have nl : (ns.map V.str).length = ns.length := List.length_map ..
    have ns4 : ns.length ≤ 4 := by rw [pm.length_eq, List.length_map]; exact p4
    refine lc_it (walk_list (xs := ns.map V.str)) (fun i H' => Same H5 H' ∧ H' Da = some (.lst (((ns.take i).filter fun x => decide (hp x < m + 1)).map V.str))) ⟨same_new nD, upd_same⟩ (fun i H2 _ h => SqL.of (h.1 _ _ e15)) ?_ ?_
    · rintro i y H6 H7 hi ⟨s6, e6⟩ ⟨rfl, ey⟩
      obtain ⟨x, ex, rfl⟩ := strs_at ey
      have mx := List.mem_of_getElem? ex
      obtain ⟨pr, mpr, epr⟩ := List.mem_map.mp (pm.mem_iff.mp mx)
      have hv : some (V.int ((hp x : Nat) : Int)) = valV (htv ps hp) (Sum.inr x) := by
        rw [← epr]
        exact (htv_val fx.nd mpr).symm
      have hle : ((ns.take i).filter fun x => decide (hp x < m + 1)).length ≤ 1000 := by
        have h1 := List.length_filter_le (fun x => decide (hp x < m + 1)) (ns.take i)
        have h2 : (ns.take i).length ≤ ns.length := by rw [List.length_take]; omega
        omega
      refine ⟨rfl, .ref pd, rfl, pd, _, rfl, .inl ⟨plK p rm, kK "highs", .inl (s6 _ _ c5.pl), rfl, pl_highs p rm⟩, .str x, rfl, p.ht, _, rfl, .inl ⟨htv ps hp, .inr x, .inl (s6 _ _ c5.ht), rfl, hv⟩, .int _, rfl, _, _, rfl, rfl, _, rfl, ite2 (fun e => ?_) (fun e => ?_)⟩
      · have hx : hp x < m + 1 := by have := of_decide_eq_true e; omega
        refine ⟨.str x, rfl, _, e6, lt _ (by rw [List.length_map]; exact hle), same_upd s6 nD, ?_⟩
        rw [upd_same, takeS ex, List.filter_append, List.filter_cons_of_pos (by simpa using hx), List.map_append]
        rfl
      · have hx : ¬ hp x < m + 1 := by have := of_decide_eq_false (Bool.eq_false_iff.mpr e); omega
        refine ⟨s6, ?_⟩
        rw [takeS ex, List.filter_append, List.filter_cons_of_neg (by simpa using hx), List.filter_nil, List.append_nil]
        exact e6
    rintro H6 ⟨s6, e6⟩
    rw [nl, List.take_length] at e6
    have c6 := c5.same s6
    have g6 := g5.trans (Same.g2 s6)
    have ef6 := s6 _ _ ef5
    obtain ⟨nDb, nDd⟩ := c5.ne nD
    have wsl : (ns.filter fun x => decide (hp x < m + 1)).length ≤ 4 := Nat.le_trans (List.length_filter_le _ _) ns4
    have wsm : ∀ x ∈ ns.filter (fun x => decide (hp x < m + 1)), x ∈ ps.map (·.nm) ∧ hp x < m + 1 := fun x mx => by
      obtain ⟨a1, a2⟩ := List.mem_filter.mp mx
      exact ⟨pm.mem_iff.mp a1, of_decide_eq_true a2⟩
    generalize (ns.filter fun x => decide (hp x < m + 1)) = ws at e6 wsl wsm
    clear c5 g5 ef5 e15 s6 hu
    dsimp only
    -- "part"
    refine cutS (fun σ' H' => σ' = [some (.ref b), some (.ref pd), some (.str z), some (.int ((m + 1 : Nat) : Int)), some (.ref p.q), some (.int ch), some (.ref pf), none, none, none, none, none, some (.ref Da), none, none, none] ∧ Same H6 H' ∧ 0 < ws.length)
      (fun σ' H' => σ' = [some (.ref b), some (.ref pd), some (.str z), some (.int ((m + 1 : Nat) : Int)), some (.ref p.q), some (.int ch), some (.ref pf), none, none, none, none, none, some (.ref Da), none, none, none] ∧ Same H6 H') ?_ ?_ ?_
    · rintro σ' H7 ⟨rfl, s7, w0⟩
      have c7 := c6.same s7
      have e7 := s7 _ _ e6
      refine ⟨.ref Da, rfl, .ref b, rfl, .ref Da, rfl, Da, _, rfl, .inl (SqL.of e7), b, r, _, rfl, c7.B, by rw [List.length_map]; omega, by rw [List.length_map]; omega, fun d8 H8 d80 d81 g8 B8 => ?_⟩
      obtain ⟨x, mx, ex⟩ := pick d80 d81
      obtain ⟨x1, x2⟩ := wsm x mx
      refine ⟨Da, _, _, .str x, rfl, rfl, SqL.of (g8 _ _ nDb e7), ex, hS 2 (by decide), ?_⟩
      exact done (t := .part x) (rm' := rm) (c7.gr g8 B8) ((g6.trans (Same.g2 s7)).trans g8.g2) (fun tt G sG e => .part e) ⟨x1, by show 1 ≤ m + 1; omega, by show 1 + hp x ≤ m + 1; omega, fun f mf => nomatch mf⟩ (by show 1 + rm ≤ rm + 1; omega)
    rotate_left
    · intro hT hE
      refine ⟨.int ch, rfl, rfl, _, rfl, ite2 (fun _ => ?_) (fun _ => hE _ _ ⟨rfl, Same.refl _⟩)⟩
      refine ⟨.ref Da, rfl, hS 0 (by decide), fun e0 ne0 => isnot (l := ws) (fun x mx => ?_) ((same_new ne0) _ _ e6) upd_same ⟨_, rfl, ite2 (fun e3 => hT _ _ ⟨rfl, same_new ne0, ?_⟩) (fun e3 => hE _ _ ⟨rfl, same_new ne0⟩)⟩⟩
      · obtain ⟨x1, _⟩ := wsm x mx
        obtain ⟨pr, mpr, rfl⟩ := List.mem_map.mp x1
        exact fx.pn pr mpr
      · have : ¬ ws.length = 0 := by simpa using e3
        omega
    rintro σ' H7 ⟨rfl, s7⟩
    have c7 := c6.same s7
    have g7 := g6.trans (Same.g2 s7)
    have ef7 := s7 _ _ ef6
    clear c6 g6 ef6 s7 e6
    dsimp only [tNext]
    -- "kind"
    refine cutS (fun σ' H' => σ' = [some (.ref b), some (.ref pd), some (.str z), some (.int ((m + 1 : Nat) : Int)), some (.ref p.q), some (.int ch), some (.ref pf), none, none, none, none, none, some (.ref Da), none, none, none] ∧ Same H7 H')
      (fun σ' H' => σ' = [some (.ref b), some (.ref pd), some (.str z), some (.int ((m + 1 : Nat) : Int)), some (.ref p.q), some (.int ch), some (.ref pf), none, none, none, none, none, some (.ref Da), none, none, none] ∧ Same H7 H' ∧ 0 < fl.length) ?_ ?_ ?_
    · rintro σ' H8 ⟨rfl, s8⟩
      have c8 := c7.same s8
      refine ⟨.ref b, rfl, .ref pd, rfl, b, r, pd, p.kl, plK p rm, p.fr, kys, 5, rfl, c8.B, c8.pl, pl_free p rm, pl_keys p rm, c8.kl, c8.n2, fx.k12, Nat.le_refl _, fun kz H9 mkz g9 B9 => ⟨hS 2 (by decide), ?_⟩⟩
      exact done (t := .kind kz) (rm' := rm) (c8.gr g9 B9) ((g7.trans (Same.g2 s8)).trans g9.g2) (fun tt G sG e => .kind e) ⟨fx.kn kz mkz, by show 1 ≤ m + 1; omega, by show 1 ≤ m + 1; omega, fun f mf => nomatch mf⟩ (by show 1 + rm ≤ rm + 1; omega)
    rotate_left
    · intro hT hE
      refine ⟨.int ch, rfl, rfl, _, rfl, ite2 (fun _ => hT _ _ ⟨rfl, Same.refl _⟩) (fun _ => ?_)⟩
      refine ⟨.ref pf, rfl, hS 0 (by decide), fun e0 ne0 => isnil flN ((same_new ne0) _ _ ef7) upd_same ⟨_, rfl, ite2 (fun e3 => hT _ _ ⟨rfl, same_new ne0⟩) (fun e3 => hE _ _ ⟨rfl, same_new ne0, ?_⟩)⟩⟩
      have : ¬ fl.length = 0 := by simpa using e3
      omega
    rintro σ' H8 ⟨rfl, s8, fl0⟩
    have c8 := c7.same s8
    have g8 := g7.trans (Same.g2 s8)
    have ef8 := s8 _ _ ef7
    clear c7 g7 ef7 s8
    dsimp only [tNext]
    -- "field"
    refine ⟨.ref pf, rfl, .ref b, rfl, .ref pf, rfl, pf, _, rfl, .inl (SqL.of ef8), b, r, _, rfl, c8.B, by rw [List.length_map]; omega, by rw [List.length_map]; omega, fun d9 H9 d90 d91 g9 B9 => ?_⟩
    obtain ⟨n1, mn1, en1⟩ := pick d90 d91
    have c9 := c8.gr g9 B9
    refine ⟨pf, _, _, .str n1, rfl, rfl, SqL.of (g9 _ _ nfb ef8), en1, ?_⟩
    obtain ⟨fd1', mfd, efd⟩ := List.mem_map.mp (fpm.mem_iff.mp mn1)
    have efd' : fd1'.1 = n1 := efd
    subst efd'
    refine ⟨.ref p.q, rfl, .str z, rfl, p.q, kt, ft, ut, ks, fs, us, root, z, rfl, c9.t ok, fun fds2 dd H10 hf2 hsh2 s10 ed2 => ?_⟩
    have efds2 := fds_eq ok hf2
    subst efds2
    have okt := hf.ok ok mfd
    have tb := okS_tgt okt
    refine ⟨.str fd1'.1, rfl, dd, fd1'.2.1, rfl, .inl ⟨_, .inr fd1'.1, .inl ed2, rfl, (fkv_val (hf.nd ok) mfd).symm⟩, fd1'.2.1, fd1'.2.2, rfl, hsh2 _ mfd, okS_dep okt, ?_⟩
    have c10 := c9.same s10
    have g10 := (g8.trans g9.g2).trans (Same.g2 s10)
    refine ⟨hS 0 (by decide), fun pi npi => ?_⟩
    have s11 := same_new (o := .tup []) npi
    have c11 := c10.same s11
    have e11 : (upd H10 pi (.tup [])) pi = some (.tup []) := upd_same
    have g11 := g10.trans (Same.g2 s11)
    generalize upd H10 pi (.tup []) = H11 at s11 c11 e11 g11
    have eib := ibF_of ok mfd
    have mnm := fds_nm ok fx.nc hf fd1' mfd
    generalize fd1'.2.2.tgt = tg at tb eib
    dsimp only
    refine gNm ?_
    refine cut1 (fun σ' H' => ∃ (rin : V) (rows : List St) (rm' : Nat), σ' = [some (.ref b), some (.ref pd), some (.str z), some (.int ((m + 1 : Nat) : Int)), some (.ref p.q), some (.int ch), some (.ref pf), none, some rin, none, none, none, some (.ref Da), some (.str fd1'.1), some (.str tg), none] ∧ PCtx H' b r pd p rm' kt ft ut ks fs us root nm kys fls ps hp ∧ G2 b pd H H' ∧ RowAt H' rin rows ∧ (rows = [] ∨ tg ∉ [("number" : Str), ("text" : Str)]) ∧ DrR ks fs us ps hp fls tg m rows ∧ szR rows + rm' ≤ rm) ?_ ?_
    · rintro σ' H12 ⟨rin, rows, rm', rfl, c12, g12, hrow, hlf, dr, sz⟩
      obtain ⟨j, ej, first⟩ := first_at mnm
      have jl : j < nm.length := (List.getElem?_eq_some_iff.mp ej).1
      have n5 := fx.n5
      refine ⟨.str fd1'.1, rfl, .ref b, rfl, .ref pd, rfl, .ref pd, rfl, pd, _, rfl, .inl ⟨plK p rm', kK "names", .inl (c12.pl), rfl, pl_names p rm'⟩, .inl ⟨rfl, _, SqL.of c12.nl⟩, .str fd1'.1, rfl, p.nl, nm.map V.str, .str fd1'.1, j, .str fd1'.1, rfl, rfl, SqL.of c12.nl, rfl, flat_map nm, by rw [List.getElem?_map, ej]; rfl, by simp [eqV], fun k z' hk ek => ?_, ?_⟩
      · obtain ⟨x, ex, rfl⟩ := strs_at ek
        simpa [eqV] using first k x hk ex
      refine ⟨b, r, pd, p.kl, plK p rm', p.fr, kys, j, rfl, c12.B, c12.pl, pl_free p rm', pl_keys p rm', c12.kl, c12.n2, fx.k12, by omega, fun kz H13 mkz g13 B13 => ⟨rin, rfl, hS 4 (by decide), ?_⟩⟩
      have hrow13 := hrow.tk (c12.tk g13.g2)
      have ln := dr.len
      have lv := dr.lv
      have ht := dr.ht
      refine done (t := .field fd1'.1 kz rows) (c12.gr g13 B13) (g12.trans g13.g2) (fun tt G sG e => .field e (hrow13.same sG)) ⟨⟨by omega, fx.kn kz mkz, ⟨fd1', mfd, rfl, ?_⟩, ?_⟩, by show 1 + lvR rows ≤ m + 1; omega, by show 1 + htR hp rows ≤ m + 1; omega, dr.fl⟩ (by show 1 + szR rows + rm' ≤ rm + 1; omega)
      · rw [← ibF_of ok mfd, eib]
        exact hlf
      · rw [eib]
        exact dr.fit
    · intro rest
      have nil11 : RowAt H11 (.ref pi) [] := .mk e11 .nil
      have dr0 : DrR ks fs us ps hp fls tg m [] := ⟨Nat.zero_le _, trivial, Nat.zero_le _, Nat.zero_le _, fun f mf => nomatch mf⟩
      have skip := rest _ H11 ⟨.ref pi, [], rm, rfl, c11, g11, nil11, .inl rfl, dr0, by show 0 + rm ≤ rm; omega⟩
      refine ⟨.str tg, rfl, rfl, _, rfl, ite2 (fun e1 => ?_) (fun _ => skip)⟩
      refine ⟨.str tg, rfl, rfl, _, rfl, ite2 (fun e2 => ?_) (fun _ => skip)⟩
      have tl' : tg ∉ [("number" : Str), ("text" : Str)] := fun h => by
        rcases List.mem_cons.mp h with rfl | h
        · simp at e1
        · rw [List.mem_singleton.mp h] at e2
          simp at e2
      refine ⟨.ref b, rfl, .ref pd, rfl, .str tg, rfl, .int _, rfl, _, _, rfl, rfl, b, r, pd, p, rm, kt, ft, ut, ks, fs, us, root, nm, kys, fls, ps, hp, tg, congrArg (fun i => [V.ref b, V.ref pd, V.str tg, V.int i]) hm1, c11, fx, tb, tl', fun v rows rm12 H12 c12 g12 hrow dr sz => ?_⟩
      exact rest _ _ ⟨v, rows, rm12, rfl, c12, g11.trans g12, hrow, .inr tl', dr, sz⟩
end
end NW
namespace NW
open PySem PySem.Spec PyProof.Rows L2
open TL (tl)
open StX (pa_star)
/-! ### from what is drawn to a question that is right -/
mutual
theorem htS_congr {hp hp' : Str → Nat} {D : Str → Prop} (e : ∀ n, D n → hp n = hp' n) : ∀ {t : St}, refS D t → htS hp t = htS hp' t
  | .field f k r, h => by show 1 + htR hp r = 1 + htR hp' r; rw [htR_congr e (show refR D r from h)]
  | .kind k, h => rfl
  | .on b r, h => by show 1 + htR hp r = 1 + htR hp' r; rw [htR_congr e (show refR D r from h)]
  | .part p, h => by show 1 + hp p = 1 + hp' p; rw [e p h]
  | .iff f b r, h => by show 1 + htR hp r = 1 + htR hp' r; rw [htR_congr e (show refR D r from h)]
theorem htR_congr {hp hp' : Str → Nat} {D : Str → Prop} (e : ∀ n, D n → hp n = hp' n) : ∀ {r : List St}, refR D r → htR hp r = htR hp' r
  | [], h => rfl
  | s :: r, h => by show max (htS hp s) (htR hp r) = max (htS hp' s) (htR hp' r); rw [htS_congr e h.1, htR_congr e h.2]
end
mutual
theorem refS_mono {D D' : Str → Prop} (e : ∀ n, D n → D' n) : ∀ {t : St}, refS D t → refS D' t
  | .field f k r, h => refR_mono e (r := r) h
  | .kind k, h => trivial
  | .on b r, h => refR_mono e (r := r) h
  | .part p, h => e p h
  | .iff f b r, h => refR_mono e (r := r) h
theorem refR_mono {D D' : Str → Prop} (e : ∀ n, D n → D' n) : ∀ {r : List St}, refR D r → refR D' r
  | [], h => trivial
  | s :: r, h => ⟨refS_mono e h.1, refR_mono e h.2⟩
end
mutual
theorem fitS_mono {ks : List KRow} {fs : List FRow} {bs : List Str} {D D' : Str → Prop} (e : ∀ n, D n → D' n) : ∀ {t : St} {z : Str}, fitS ks fs bs D z t → fitS ks fs bs D' z t
  | .field f k r, z, h => ⟨h.1, h.2.1, h.2.2.1, fitR_mono e h.2.2.2⟩
  | .kind k, z, h => h
  | .on b r, z, h => ⟨h.1, h.2.1, h.2.2.1, fitR_mono e h.2.2.2⟩
  | .part p, z, h => e p h
  | .iff f b r, z, h => ⟨h.1, h.2.1, fitR_mono e h.2.2⟩
theorem fitR_mono {ks : List KRow} {fs : List FRow} {bs : List Str} {D D' : Str → Prop} (e : ∀ n, D n → D' n) : ∀ {r : List St} {z : Str}, fitR ks fs bs D z r → fitR ks fs bs D' z r
  | [], z, h => trivial
  | s :: r, z, h => ⟨fitS_mono e h.1, fitR_mono e h.2⟩
end
mutual
theorem fitS_ref {ks : List KRow} {fs : List FRow} {bs : List Str} {D : Str → Prop} : ∀ {t : St} {z : Str}, fitS ks fs bs D z t → refS D t
  | .field f k r, z, h => fitR_ref (r := r) h.2.2.2
  | .kind k, z, h => trivial
  | .on b r, z, h => fitR_ref (r := r) h.2.2.2
  | .part p, z, h => h
  | .iff f b r, z, h => fitR_ref (r := r) h.2.2
theorem fitR_ref {ks : List KRow} {fs : List FRow} {bs : List Str} {D : Str → Prop} : ∀ {r : List St} {z : Str}, fitR ks fs bs D z r → refR D r
  | [], z, h => trivial
  | s :: r, z, h => ⟨fitS_ref h.1, fitR_ref h.2⟩
end
/-- what is right of each statement inside -/
structure InI (ks : List KRow) (fs : List FRow) (bs : List Str) (D : Str → Prop) (F : List Str) (n : Nat) (i : Itm) : Prop where
  zb : i.z ∈ bs
  fit : fitS ks fs bs D i.z i.t
  fl : ∀ f, flS i.t = some f → f ∈ F
  ln : i.pl.length ≤ n
theorem InI.le {ks : List KRow} {fs : List FRow} {bs : List Str} {D : Str → Prop} {F : List Str} {n m : Nat} {i : Itm} (h : InI ks fs bs D F n i) (l : n ≤ m) : InI ks fs bs D F m i := ⟨h.zb, h.fit, h.fl, Nat.le_trans h.ln l⟩
section
variable {ks : List KRow} {fs : List FRow} {us : List URow} {root : Str} {D : Str → Prop} {F : List Str}
mutual
theorem inS (ok : SchOk ks fs us root) : ∀ {t : St} {pl : List Key} {z : Str}, fitS ks fs (bsOf ks fs us) D z t → z ∈ bsOf ks fs us → (∀ f ∈ flgS t, f ∈ F) → ∀ i ∈ prS ks fs pl z t, InI ks fs (bsOf ks fs us) D F (pl.length + lvR t.rows) i
  | .field f k r, pl, z, h, hz, hf => by
    obtain ⟨_, _, ⟨fl, m, e, _⟩, fr⟩ := h
    have eb := ibF_of ok m
    rw [e] at eb
    have hb : ibF ks fs z f ∈ bsOf ks fs us := by
      rw [eb]
      exact okS_tgt ((fds_ex (ks := ks) (fs := fs) (z := z)).ok ok m)
    exact inR ok (rows := r) fr hb hf
  | .kind k, pl, z, h, hz, hf => fun i m => by cases m
  | .on b r, pl, z, h, hz, hf => inR ok (rows := r) h.2.2.2 h.1 hf
  | .part p, pl, z, h, hz, hf => fun i m => by cases m
  | .iff f b r, pl, z, h, hz, hf => inR ok (rows := r) h.2.2 hz fun x m => hf x (List.mem_cons_of_mem _ m)
theorem inR (ok : SchOk ks fs us root) : ∀ {rows : List St} {pl : List Key} {z : Str} {k : Nat}, fitR ks fs (bsOf ks fs us) D z rows → z ∈ bsOf ks fs us → (∀ f ∈ flgR rows, f ∈ F) → ∀ i ∈ prR ks fs pl z k rows, InI ks fs (bsOf ks fs us) D F (pl.length + lvR rows) i
  | [], pl, z, k, h, hz, hf => fun i m => by cases m
  | s :: r, pl, z, k, h, hz, hf => fun i m => by
    have l1 : lvS s ≤ lvR (s :: r) := lvR_mem List.mem_cons_self
    have l2 : lvR r ≤ lvR (s :: r) := by show lvR r ≤ max (lvS s) (lvR r); omega
    have l3 := lvS_rows s
    have fs1 : ∀ f ∈ flgS s, f ∈ F := fun f m => hf f (List.mem_append_left _ m)
    have fs2 : ∀ f ∈ flgR r, f ∈ F := fun f m => hf f (List.mem_append_right _ m)
    rcases List.mem_cons.mp (show i ∈ (⟨pl ++ [Sum.inl (k : Int)], z, s⟩ : Itm) :: (prS ks fs (pl ++ [Sum.inl (k : Int)]) z s ++ prR ks fs pl z (k + 1) r) from m) with rfl | m
    · refine ⟨hz, h.1, fun f e => fs1 f ?_, ?_⟩
      · have e' : flS s = some f := e
        rw [flgS_rows, e']
        exact List.mem_append_left _ (List.mem_singleton.mpr rfl)
      · show (pl ++ [Sum.inl (k : Int)]).length ≤ pl.length + lvR (s :: r)
        rw [List.length_append]
        show pl.length + 1 ≤ _
        have := lvS_pos s
        omega
    · rcases List.mem_append.mp m with m | m
      · refine (inS ok h.1 hz fs1 i m).le ?_
        rw [List.length_append]
        show pl.length + 1 + lvR s.rows ≤ pl.length + lvR (s :: r)
        omega
      · exact (inR ok (rows := r) h.2 hz fs2 i m).le (by omega)
end
end
theorem lvl_le (pl : List Key) : lvl pl ≤ pl.length := by
  cases pl with
  | nil => exact Nat.le_refl _
  | cons k r =>
    cases k with
    | inl i => exact Nat.le_refl _
    | inr z => exact Nat.le_succ _
/-- where a part stands -/
def rkf : List PRow → Str → Nat
  | [], _ => 0
  | p :: r, n => if p.nm = n then 0 else 1 + rkf r n
theorem rkf_at : ∀ {ps : List PRow} {i : Nat} {p : PRow}, (ps.map (·.nm)).Nodup → ps[i]? = some p → rkf ps p.nm = i
  | q :: r, 0, p, nd, e => by
    cases e
    exact if_pos rfl
  | q :: r, i + 1, p, nd, e => by
    have nd' := List.nodup_cons.mp nd
    have e' : r[i]? = some p := by simpa using e
    have ih := rkf_at nd'.2 e'
    show (if q.nm = p.nm then 0 else 1 + rkf r p.nm) = i + 1
    rw [if_neg fun z => nd'.1 (List.mem_map.mpr ⟨p, List.mem_of_getElem? e', z.symm⟩), ih]
    omega
theorem rkf_take : ∀ {ps : List PRow} {i : Nat} {n : Str}, n ∈ (ps.take i).map (·.nm) → rkf ps n < i
  | [], i, n, m => by simp at m
  | q :: r, 0, n, m => by simp at m
  | q :: r, i + 1, n, m => by
    show (if q.nm = n then 0 else 1 + rkf r n) < i + 1
    by_cases h : q.nm = n
    · rw [if_pos h]
      omega
    · rw [if_neg h]
      rw [List.take_succ_cons, List.map_cons] at m
      have := rkf_take (ps := r) ((List.mem_cons.mp m).resolve_left fun z => h z.symm)
      omega
/-- the parts as they are drawn, one after the other -/
structure Parts (ks : List KRow) (fs : List FRow) (us : List URow) (ps : List PRow) (hp : Str → Nat) (fls : List Str) : Prop where
  zb : ∀ p ∈ ps, p.z ∈ bsOf ks fs us ∧ p.z ∉ [("number" : Str), ("text" : Str)]
  dr : ∀ (i : Nat) (p : PRow), ps[i]? = some p → DrR ks fs us (ps.take i) hp fls p.z 2 p.rows ∧ hp p.nm = htR hp p.rows
theorem take_sub {ps : List PRow} {i : Nat} : ∀ n, n ∈ (ps.take i).map (·.nm) → n ∈ ps.map (·.nm) := fun n m => by
  obtain ⟨p, mp, e⟩ := List.mem_map.mp m
  exact List.mem_map.mpr ⟨p, List.mem_of_mem_take mp, e⟩
theorem Parts.hts {ks : List KRow} {fs : List FRow} {us : List URow} {ps : List PRow} {hp : Str → Nat} {fls : List Str} (h : Parts ks fs us ps hp fls) (nd : (ps.map (·.nm)).Nodup) : ∀ (k i : Nat) (p : PRow), ps[i]? = some p → i < k → hts ps k p.nm = hp p.nm
  | 0, i, p, e, l => absurd l (Nat.not_lt_zero _)
  | k + 1, i, p, e, l => by
    obtain ⟨d, eh⟩ := h.dr i p e
    rw [hts_of nd (List.mem_of_getElem? e), eh]
    refine htR_congr (D := fun x => x ∈ (ps.take i).map (·.nm)) (fun n m => ?_) (fitR_ref d.fit)
    obtain ⟨q, mq, rfl⟩ := List.mem_map.mp m
    obtain ⟨j, hj, ej⟩ := List.getElem_of_mem mq
    rw [List.length_take] at hj
    rw [List.getElem_take] at ej
    have hj2 : j < ps.length := by omega
    exact h.hts nd k j q (by rw [List.getElem?_eq_getElem hj2, ej]) (by omega)
/-- all sizes of the parts together -/
def psum (ps : List PRow) : Nat := (ps.map fun p => szR p.rows).sum
theorem psum_psz {ps : List PRow} (nd : (ps.map (·.nm)).Nodup) : ((ps.map (·.nm)).map (psz ps)).sum = psum ps := by
  unfold psum
  rw [List.map_map]
  congr 1
  exact List.map_congr_left fun p m => psz_of nd m
theorem all_len {ks : List KRow} {fs : List FRow} {ps : List PRow} {root : Str} {rows : List St} (nd : (ps.map (·.nm)).Nodup) : (allItems ks fs ps root rows).length = szR rows + psum ps := by
  unfold allItems
  rw [List.length_append, prR_len, ← psum_psz nd, ← sum_perm (psz ps) (srt_perm (ps.map (·.nm))), List.length_flatMap]
  congr 2
  refine List.map_congr_left fun n mn => ?_
  obtain ⟨p, mp, rfl⟩ := List.mem_map.mp ((srt_perm _).mem_iff.mp mn)
  rw [pItems_of nd mp, prR_len, psz_of nd mp]
theorem drawn_ok {ks : List KRow} {fs : List FRow} {us : List URow} {root : Str} {nm kys fls : List Str} {ps : List PRow} {hp : Str → Nat} {rows : List St} (fx : PFix ks fs us root nm kys fls ps) (pk : Parts ks fs us ps hp fls) (dr : DrR ks fs us ps hp fls root 5 rows) (few : szR rows + psum ps ≤ 40) :
    QOk ks fs us root rows ps fls (rkf ps) := by
  have ok := fx.ok
  have at_ : ∀ p ∈ ps, ∃ i, ps[i]? = some p := fun p m => by
    obtain ⟨i, hi, e⟩ := List.getElem_of_mem m
    exact ⟨i, by rw [List.getElem?_eq_getElem hi, e]⟩
  have fitp : ∀ p ∈ ps, fitR ks fs (bsOf ks fs us) (fun x => x ∈ ps.map (·.nm)) p.z p.rows ∧ lvR p.rows ≤ 2 ∧ p.rows.length ≤ 4 ∧ ∀ f ∈ flgR p.rows, f ∈ fls := fun p m => by
    obtain ⟨i, e⟩ := at_ p m
    obtain ⟨d, _⟩ := pk.dr i p e
    exact ⟨fitR_mono take_sub d.fit, d.lv, d.len, d.fl⟩
  have rb : root ∈ bsOf ks fs us := names_bs (List.mem_append_left _ ok.rt)
  refine ⟨⟨fx.p4, fx.nd, fx.pn, pk.zb, fun p m => ?_, fun p m => fitR_ref (fitp p m).1⟩, by have := dr.len; omega, fit_smR dr.fit, dr.lv, fitR_ref dr.fit, fun p m => ?_, fun i m => ?_, by rw [all_len fx.nd]; exact few, by rw [fx.f3]; exact Nat.le_refl _, ?_⟩
  · obtain ⟨a, b, c, _⟩ := fitp p m
    exact ⟨by omega, fit_smR a, by omega⟩
  · obtain ⟨i, e⟩ := at_ p m
    obtain ⟨d, _⟩ := pk.dr i p e
    exact refR_mono (fun n mn => ⟨take_sub n mn, by rw [rkf_at fx.nd e]; exact rkf_take mn⟩) (fitR_ref d.fit)
  · rcases List.mem_append.mp m with m | m
    · have h := inR ok (F := fls) (k := 0) (pl := []) dr.fit rb dr.fl i m
      obtain ⟨j, _, r, e⟩ := prR_pl m
      have lv := dr.lv
      have ln := h.ln
      exact ⟨by rw [e]; simp, Nat.le_trans (lvl_le _) (by simp at ln; omega), h.zb, h.fit, h.fl⟩
    · obtain ⟨n, mn, m⟩ := List.mem_flatMap.mp m
      obtain ⟨p, mp, rfl⟩ := List.mem_map.mp ((srt_perm _).mem_iff.mp mn)
      rw [pItems_of fx.nd mp] at m
      obtain ⟨a, b, c, d⟩ := fitp p mp
      have h := inR ok (F := fls) (k := 0) (pl := [Sum.inr p.nm]) a (pk.zb p mp).1 d i m
      obtain ⟨j, _, r, e⟩ := prR_pl m
      have ln := h.ln
      refine ⟨by rw [e]; simp, ?_, h.zb, h.fit, h.fl⟩
      rw [e] at ln ⊢
      show (Sum.inl (j : Int) :: r : List Key).length ≤ 5
      simp at ln
      simp
      omega
  · rw [htR_congr (hp' := hp) (D := fun x => x ∈ ps.map (·.nm)) (fun n mn => ?_) (fitR_ref dr.fit)]
    · exact dr.ht
    · obtain ⟨p, mp, rfl⟩ := List.mem_map.mp mn
      obtain ⟨i, e⟩ := at_ p mp
      exact pk.hts fx.nd ps.length i p e (List.getElem?_eq_some_iff.mp e).1
/-- one part more -/
theorem Parts.snoc {ks : List KRow} {fs : List FRow} {us : List URow} {ps : List PRow} {hp : Str → Nat} {fls : List Str} (h : Parts ks fs us ps hp fls) {p : PRow} (nd : p.nm ∉ ps.map (·.nm)) (zb : p.z ∈ bsOf ks fs us ∧ p.z ∉ [("number" : Str), ("text" : Str)]) (d : DrR ks fs us ps hp fls p.z 2 p.rows) :
    Parts ks fs us (ps ++ [p]) (fun n => if n = p.nm then htR hp p.rows else hp n) fls := by
  have old : ∀ (l : List PRow) (rows : List St) (z : Str), (∀ n ∈ l.map (·.nm), n ∈ ps.map (·.nm)) → fitR ks fs (bsOf ks fs us) (fun x => x ∈ l.map (·.nm)) z rows → htR (fun n => if n = p.nm then htR hp p.rows else hp n) rows = htR hp rows := fun l rows z hl hf =>
    htR_congr (D := fun x => x ∈ l.map (·.nm)) (fun n m => if_neg fun (e : n = p.nm) => nd (by rw [← e]; exact hl n m)) (fitR_ref hf)
  refine ⟨fun q m => ?_, fun i q e => ?_⟩
  · rcases List.mem_append.mp m with m | m
    · exact h.zb q m
    · rw [List.mem_singleton.mp m]; exact zb
  · by_cases hi : i < ps.length
    · rw [List.getElem?_append_left hi] at e
      obtain ⟨dq, eq⟩ := h.dr i q e
      have ht : (ps ++ [p]).take i = ps.take i := List.take_append_of_le_length (by omega)
      rw [ht]
      have eh := old (ps.take i) q.rows q.z take_sub dq.fit
      refine ⟨⟨dq.len, dq.fit, dq.lv, by rw [eh]; exact dq.ht, dq.fl⟩, ?_⟩
      show (if q.nm = p.nm then _ else hp q.nm) = _
      rw [eh, if_neg fun (z : q.nm = p.nm) => nd (by rw [← z]; exact List.mem_map.mpr ⟨q, List.mem_of_getElem? e, rfl⟩)]
      exact eq
    · rw [List.getElem?_append_right (Nat.le_of_not_lt hi)] at e
      have hi0 : i - ps.length = 0 := by
        by_cases h0 : i - ps.length = 0
        · exact h0
        · rw [List.getElem?_eq_none (by show 1 ≤ i - ps.length; omega)] at e
          cases e
      rw [hi0] at e
      cases e
      have ei : i = ps.length := by omega
      subst ei
      have ht : (ps ++ [p]).take ps.length = ps := by rw [List.take_append_of_le_length (Nat.le_refl _), List.take_length]
      rw [ht]
      have eh := old ps p.rows p.z (fun _ m => m) d.fit
      refine ⟨⟨d.len, d.fit, d.lv, by rw [eh]; exact d.ht, d.fl⟩, ?_⟩
      show (if p.nm = p.nm then _ else hp p.nm) = _
      rw [if_pos rfl, eh]
end NW
namespace NW
open PySem PySem.Spec PyProof.Rows L2
open TL (tl)
open StX (pa_star)
abbrev s_Lplan : Stmt := topS 82
abbrev N_Lplan : List Str := ["_law_box_here", "_law_schema_here", "_law_room", "_law_names", "_law_kind_here", "_law_plan_here", "_law_words_here", "_law_word", "_law_bases_here", "_law_base", "_law_rows_here", "_law_high", "_law_parts", "_law_highs", "_law_name"]
theorem sc_Lplan : FnScope N_Lplan ["_law_box_here", "_law_schema_here", "_law_room"] (defScope s_Lplan) := ⟨rfl, rfl, rfl, by decide +kernel, rfl, by decide +kernel, by decide +kernel⟩
theorem mergeK_nd : ∀ (more kvs : List (Key × V)), (kvs.map (·.1) ++ more.map (·.1)).Nodup → mergeK kvs more = kvs ++ more
  | [], kvs, _ => by show kvs = _; rw [List.append_nil]
  | (k, v) :: r, kvs, nd => by
    have hk : k ∉ kvs.map (·.1) := fun m => (List.nodup_append.mp nd).2.2 k m k List.mem_cons_self rfl
    show mergeK (putK kvs k v) r = _
    rw [putK_end hk, mergeK_nd r (kvs ++ [(k, v)]) (by
      rw [List.map_append, List.append_assoc]
      exact nd), List.append_assoc]
    rfl
theorem Gr.g2n {b d : Addr} {H H1 H2 : Hp} (g : Gr b H H1) (g2 : G2 b d H1 H2) (n : H d = none) : Gr b H H2 := fun a o nb e => g2 a o nb (ne_of_none e n) (g a o nb e)
section
variable {P : Program} {w : World} {K : PySem.W.Frag} {mg : Str → Option Value} {base : Heap}
theorem ok_drawn {f f1 f2 f3 f4 f5 f6 f7 : Addr} {fd fd1 fd2 fd3 fd4 fd5 fd6 fd7 : FuncData} (D : Df K mg "_law_statement" s_Lstatement f fd ["_law_box_here", "_law_plan_here", "_law_base", "_law_high"]) (D_Ldraw : Df K mg "_law_draw" s_Ldraw f1 fd1 ["_law_box_here", "_law_many"])
    (D_Ltable : Df K mg "_law_table" s_Ltable f2 fd2 ["_law_schema_here", "_law_base"]) (D_Lbases : Df K mg "_law_bases" s_Lbases f3 fd3 ["_law_schema_here"]) (D_Lmembers : Df K mg "_law_members" s_Lmembers f4 fd4 ["_law_schema_here", "_law_base"]) (D_Lkey : Df K mg "_law_key" s_Lkey f5 fd5 ["_law_box_here", "_law_plan_here", "_law_at"]) (D_Ltarget : Df K mg "_law_target" s_Ltarget f6 fd6 ["_law_shape_here"])
    (D_Lrows : Df K mg "_law_rows" s_Lrows f7 fd7 ["_law_box_here", "_law_plan_here", "_law_base", "_law_high"]) (T : Nms mg) : ∀ n : Nat,
    FnOk P w K mg base CX0 (2 * n + 4) f7 fd7 ["_law_box_here", "_law_plan_here", "_law_base", "_law_high"] (spLrows n) ∧ FnOk P w K mg base CX0 (2 * n + 3) f fd ["_law_box_here", "_law_plan_here", "_law_base", "_law_high"] (spLstmt n)
  | 0 => by
    have h0 : FnOk P w K mg base CX0 3 f fd ["_law_box_here", "_law_plan_here", "_law_base", "_law_high"] (spLstmt 0) := by
      refine D.F.ok sc_Lstatement (fun vs H Q E h => ?_) (fun cdv A outer s H vs Q E hr h => ?_)
      · obtain ⟨b, r, pd, p, rm, kt, ft, ut, ks, fs, us, root, nm, kys, fls, ps, hp, z, rfl, _⟩ := h
        rfl
      · obtain ⟨b, r, pd, p, rm, kt, ft, ut, ks, fs, us, root, nm, kys, fls, ps, hp, z, rfl, h, _⟩ := h
        exact absurd h (Nat.lt_irrefl _)
    exact ⟨ok_Lrows D_Lrows D_Ldraw D h0 T, h0⟩
  | n + 1 => by
    have ih := (ok_drawn D D_Ldraw D_Ltable D_Lbases D_Lmembers D_Lkey D_Ltarget D_Lrows T n).1
    have h1 := ok_Lstatement (m := n) D D_Ldraw D_Ltable D_Lbases D_Lmembers D_Lkey D_Ltarget D_Lrows ih T
    exact ⟨ok_Lrows D_Lrows D_Ldraw D h1 T, h1⟩
def spLplan : Sp := fun vs H Q _ => ∃ (b r q kt ft ut : Addr) (ks : List KRow) (fs : List FRow) (us : List URow) (root : Str) (room : Nat), vs = [.ref b, .ref q, .int (room : Int)] ∧ Box H b r ∧ SchT H q kt ft ut ks fs us root ∧ Nm5 ks ∧
  ∀ (pd : Addr) (p : Pl) (rm : Nat) (nm kys fls : List Str) (ps : List PRow) (hp : Str → Nat) H', H pd = none → PCtx H' b r pd p rm kt ft ut ks fs us root nm kys fls ps hp → PFix ks fs us root nm kys fls ps → (∀ p ∈ ps, p.At H') → Parts ks fs us ps hp fls → psum ps + rm ≤ room → Gr b H H' → Q (.ref pd) H'
theorem ok_Lplan {f f1 f2 f3 f4 f5 : Addr} {fd fd1 fd2 fd3 fd4 fd5 : FuncData} (D : Df K mg "_law_plan" s_Lplan f fd ["_law_box_here", "_law_schema_here", "_law_room"]) (D_Ldraw : Df K mg "_law_draw" s_Ldraw f1 fd1 ["_law_box_here", "_law_many"]) (D_Lwords : Df K mg "_law_words" s_Lwords f2 fd2 ["_law_box_here", "_law_many"]) (D_Lbases : Df K mg "_law_bases" s_Lbases f3 fd3 ["_law_schema_here"])
    (D_Lrows : Df K mg "_law_rows" s_Lrows f4 fd4 ["_law_box_here", "_law_plan_here", "_law_base", "_law_high"]) (G_Lrows : FnOk P w K mg base CX0 8 f4 fd4 ["_law_box_here", "_law_plan_here", "_law_base", "_law_high"] (spLrows 2)) (D_Lheight : Df K mg "_law_height" s_Lheight f5 fd5 ["_law_rows_here", "_law_highs"]) (G_Lheight : FnOk P w K mg base CX0 3 f5 fd5 ["_law_rows_here", "_law_highs"] (spLheight 2)) (T : Nms mg) :
    FnOk P w K mg base CX0 9 f fd ["_law_box_here", "_law_schema_here", "_law_room"] spLplan := by
  have G_Ldraw : FnOk P w K mg base CX0 1 f1 fd1 ["_law_box_here", "_law_many"] spLdraw := ok_Ldraw D_Ldraw T
  have G_Lwords : FnOk P w K mg base CX0 2 f2 fd2 ["_law_box_here", "_law_many"] spLwords := ok_Lwords D_Lwords D_Ldraw T
  have G_Lbases : FnOk P w K mg base CX0 1 f3 fd3 ["_law_schema_here"] spLbases := ok_Lbases D_Lbases T
  refine D.F.ok sc_Lplan (fun vs H Q E h => ?_) (fun cdv A outer s H vs Q E hr h => ?_)
  · obtain ⟨b, r, q, kt, ft, ut, ks, fs, us, root, room, rfl, _⟩ := h
    rfl
  · obtain ⟨b, r, q, kt, ft, ut, ks, fs, us, root, room, rfl, B, ⟨hq, S, ok⟩, ⟨nm5, nm5l, nm5c⟩, k⟩ := h
    have hu := hu_of hr
    refine ⟨_, (pss_cons (ps_set (i := 3) sc_Lplan.nd rfl (.inr rfl) (pe_lst pa_nil))
      (pss_cons (ps_for PassesOwn.never rfl (pi_list (pe_callB (call_sortedD rfl) (by rfl) T.n_sorted (by decide +kernel) (pa_cons (pe_ix ix_tup (pv 1) pe_int (fun _ _ => rfl)) pa_nil))) (pg_name (i := 4) sc_Lplan.nd rfl (.inl rfl))
       (pss_one (ps_set (i := 3) sc_Lplan.nd rfl (.inr rfl) (pe_op op_cat (pv 3) (pe_lc (own := [("_law_name", 14)]) (g := (gName 14)) rfl sc_Lplan.nd (pi_list (pe_callB (call_sortedD rfl) (by rfl) T.n_sorted (by decide +kernel) (pa_cons (pe_ix ix_tup (pe_dget hu (pe_ix ix_tup (pv 1) pe_int (fun _ _ => rfl)) (pv 4) (fun _ _ => rfl)) pe_int (fun _ _ => rfl)) pa_nil))) (blkOk_by (own := [("_law_name", 14)]) (N := N_Lplan) (sc := defScope s_Lplan) (by decide +kernel)) (fun _ _ _ _ _ => (pg_name (i := 14) sc_Lplan.nd rfl (.inl rfl))) (fun _ _ _ _ _ => pts_one (pt_cmpR (op_notIn_seqK K) (pv 14) (pv 3) (by rfl))) (fun _ _ _ _ _ => (pv 14)))))))
      (pss_cons (ps_set (i := 5) sc_Lplan.nd rfl (.inl rfl) (pe_disp (pps_cons pe_str (pv 1) (pps_cons pe_str (pv 3) (pps_cons pe_str (pe_op op_fdivN (pv 2) pe_int) (pps_cons pe_str pe_dnewK (pps_cons pe_str pe_dnewK pps_nil))))) (by rfl) (by rfl) (fun z => by cases z) (by decide)))
      (pss_cons (ps_dput hu (pv 5) pe_str (pe_call G_Lwords (hr.mono (by decide)) (by rfl) D_Lwords.g D_Lwords.F.kp D_Lwords.b .nil pass0 (pa_cons (pv 0) (pa_cons pe_int pa_nil))) rfl)
      (pss_cons (ps_dput hu (pv 5) pe_str (pe_call G_Lwords (hr.mono (by decide)) (by rfl) D_Lwords.g D_Lwords.F.kp D_Lwords.b .nil pass0 (pa_cons (pv 0) (pa_cons pe_int pa_nil))) rfl)
      (pss_cons (ps_dput hu (pv 5) pe_str (pe_cmpR op_eq (pe_call G_Ldraw (hr.mono (by decide)) (by rfl) D_Ldraw.g D_Ldraw.F.kp D_Ldraw.b .nil pass0 (pa_cons (pv 0) (pa_cons pe_int pa_nil))) pe_int (nomark _)) rfl)
      (pss_cons (ps_set (i := 6) sc_Lplan.nd rfl (.inl rfl) (pe_call G_Lwords (hr.mono (by decide)) (by rfl) D_Lwords.g D_Lwords.F.kp D_Lwords.b .nil pass0 (pa_cons (pv 0) (pa_cons pe_int pa_nil))))
      (pss_cons (ps_for PassesOwn.never rfl (pi_list (pe_slice sl_list (pv 6) po_none (po_some (pe_op op_add (pe_call G_Ldraw (hr.mono (by decide)) (by rfl) D_Ldraw.g D_Ldraw.F.kp D_Ldraw.b .nil pass0 (pa_cons (pv 0) (pa_cons pe_int pa_nil))) (pe_op op_mul pe_int (pe_callTy call_int1 (by rfl) T.n_int (by decide +kernel) (pa_cons (pe_cmpR op_gt (pv 2) pe_int (nomark _)) pa_nil))))))) (pg_name (i := 7) sc_Lplan.nd rfl (.inl rfl))
       (pss_cons (ps_set (i := 8) sc_Lplan.nd rfl (.inl rfl) (pe_call G_Lbases (hr.mono (by decide)) (by rfl) D_Lbases.g D_Lbases.F.kp D_Lbases.b .nil pass0 (pa_cons (pv 1) pa_nil)))
        (pss_cons (ps_set (i := 9) sc_Lplan.nd rfl (.inl rfl) (pe_ix ix_list (pv 8) (pe_call G_Ldraw (hr.mono (by decide)) (by rfl) D_Ldraw.g D_Ldraw.F.kp D_Ldraw.b .nil pass0 (pa_cons (pv 0) (pa_cons (pe_callB call_len_seq (by rfl) T.n_len (by decide +kernel) (pa_cons (pv 8) pa_nil)) pa_nil))) (fun _ _ => rfl)))
        (pss_cons (ps_set (i := 10) sc_Lplan.nd rfl (.inl rfl) (pe_call G_Lrows (hr.mono (by decide)) (by rfl) D_Lrows.g D_Lrows.F.kp D_Lrows.b .nil pass0 (pa_cons (pv 0) (pa_cons (pv 5) (pa_cons (pv 9) (pa_cons pe_int pa_nil))))))
        (pss_cons (ps_set (i := 11) sc_Lplan.nd rfl (.inl rfl) (pe_call G_Lheight (hr.mono (by decide)) (by rfl) D_Lheight.g D_Lheight.F.kp D_Lheight.b .nil pass0 (pa_cons (pv 10) (pa_cons (pe_dget hu (pv 5) pe_str (fun _ _ => rfl)) pa_nil))))
        (pss_cons (ps_set (i := 12) sc_Lplan.nd rfl (.inl rfl) (pe_dget hu (pv 5) pe_str (fun _ _ => rfl)))
        (pss_cons (ps_dput hu (pv 12) (pv 7) (pe_tup (pa_cons (pv 9) (pa_cons (pv 10) pa_nil))) rfl)
        (pss_cons (ps_set (i := 13) sc_Lplan.nd rfl (.inl rfl) (pe_dget hu (pv 5) pe_str (fun _ _ => rfl)))
        (pss_one (ps_dput hu (pv 13) (pv 7) (pv 11) rfl))))))))))
      (pss_cons (ps_dput hu (pv 5) pe_str (pe_op op_sub (pe_op op_add (pe_dget hu (pv 5) pe_str (fun _ _ => rfl)) (pv 2)) (pe_op op_fdivN (pv 2) pe_int)) rfl)
      (pss_one (ps_ret (pv 5)))))))))))), ?_⟩
    have hS : ∀ n : Nat, n ≤ 1000 → n ≤ sizeLine := fun n h => Nat.le_trans h (by decide)
    have lt : ∀ n : Nat, n ≤ 1000 → n < sizeLine := fun n h => Nat.lt_of_le_of_lt h (by decide)
    have hfd : (room : Int).fdiv 2 = ((room / 2 : Nat) : Int) := by
      rw [Int.fdiv_eq_ediv_of_nonneg _ (by decide)]
      rfl
    have k1 := ok.k1
    have k0 := ok.k0
    have f1' := ok.f1
    have u1' := ok.u1
    -- the names
    refine ⟨hS 0 (by decide), fun na nna => ?_⟩
    have s0 := same_new (o := .lst []) nna
    have e0 : (upd H na (.lst [])) na = some (.lst []) := upd_same
    generalize upd H na (.lst []) = H0 at s0 e0
    refine ⟨.ref q, rfl, q, _, 0, _, rfl, rfl, .inl (.inl (s0 _ _ hq)), atI_nat (j := 0) rfl, kt, kkv ks, _, rfl, .inl (s0 _ _ S.kd), kkv_keys _, by rw [List.length_map]; omega, fun kl' pk kpm _ npk => ?_⟩
    have s1 := same_new (o := .lst (kl'.map V.str)) npk
    have e1 : (upd H0 pk (.lst (kl'.map V.str))) pk = some (.lst (kl'.map V.str)) := upd_same
    have e01 := s1 _ _ e0
    have s01 := s0.trans s1
    generalize upd H0 pk (.lst (kl'.map V.str)) = H1 at s1 e1 e01 s01
    refine ⟨pk, rfl, ⟨_, SqL.of e1⟩, for_list (xs := kl'.map V.str) (fun j σ H' => ∃ (na : Addr) (nms : List Str) (y4 : Option V), σ = [some (.ref b), some (.ref q), some (.int (room : Int)), some (.ref na), y4, none, none, none, none, none, none, none, none, none, none] ∧ Same H1 H' ∧ H na = none ∧ H' na = some (.lst (nms.map V.str)) ∧ nms.Nodup ∧ (∀ z ∈ nms, z ∈ nm5) ∧ ∀ k ∈ ks, k.nm ∈ kl'.take j → ∀ f ∈ k.fds, f.1 ∈ nms) ?_ ?_ ?_ ?_⟩
    · exact ⟨na, [], none, rfl, Same.refl _, nna, e01, List.nodup_nil, (fun z m => nomatch m), fun k _ m => by simp at m⟩
    · rintro j σ H' _ ⟨_, _, _, _, s, _⟩
      exact SqL.of (s _ _ e1)
    · rintro j y σ H2 ey ⟨na, nms, y4, rfl, s2, nna, ena, nnd, nn5, ncov⟩
      obtain ⟨kn, ek, rfl⟩ := strs_at ey
      have mk' := List.mem_of_getElem? ek
      obtain ⟨kr, mkr, ekr⟩ := List.mem_map.mp (kpm.mem_iff.mp mk')
      subst ekr
      have s02 := s01.trans s2
      have ka := (S.ka kr mkr).same s02
      have kd5 := (ok.kd kr mkr).n1
      have nl5 : nms.length ≤ 5 := Nat.le_trans (nd_len nnd nn5) nm5l
      refine ⟨.ref na, rfl, .ref q, rfl, q, _, 0, _, rfl, rfl, .inl (.inl (s02 _ _ hq)), atI_nat (j := 0) rfl, .str kr.nm, rfl, kt, .ref kr.t, rfl, .inl ⟨kkv ks, .inr kr.nm, .inl (s02 _ _ S.kd), rfl, (kkv_val ok.ndk mkr).symm⟩, kr.t, _, 1, _, rfl, rfl, .inl (.inl ka.t), atI_nat (j := 1) rfl, kr.da, fkv kr.fds, _, rfl, .inl ka.d.at_, fkv_keys _, by rw [List.length_map]; omega, fun fl pf fpm _ npf => ?_⟩
      have s3 := same_new (o := .lst (fl.map V.str)) npf
      have e3 : (upd H2 pf (.lst (fl.map V.str))) pf = some (.lst (fl.map V.str)) := upd_same
      have ena3 := s3 _ _ ena
      have s23 := s2.trans s3
      generalize upd H2 pf (.lst (fl.map V.str)) = H3 at s3 e3 ena3 s23
      have nfl : (fl.map V.str).length = fl.length := List.length_map ..
      have fl5 : fl.length ≤ 5 := by rw [fpm.length_eq, List.length_map]; exact kd5
      have flnd : fl.Nodup := fpm.nodup_iff.mpr (ok.kd kr mkr).nd
      have fl_5 : ∀ z ∈ fl, z ∈ nm5 := fun z m => by
        obtain ⟨f', mf, e⟩ := List.mem_map.mp (fpm.mem_iff.mp m)
        rw [← e]
        exact nm5c kr mkr f' mf
      refine ⟨pf, rfl, ⟨_, SqL.of e3⟩, fun Da nD => ?_⟩
      refine lc_it (walk_list (xs := fl.map V.str)) (fun i H' => Same H3 H' ∧ H' Da = some (.lst (((fl.take i).filter fun x => decide (x ∉ nms)).map V.str))) ⟨same_new nD, upd_same⟩ (fun i H2 _ h => SqL.of (h.1 _ _ e3)) ?_ ?_
      · rintro i y H6 H7 hi ⟨s6, e6⟩ ⟨rfl, ey⟩
        obtain ⟨x, ex, rfl⟩ := strs_at ey
        have hle : ((fl.take i).filter fun x => decide (x ∉ nms)).length ≤ 1000 := by
          have h1 := List.length_filter_le (fun x => decide (x ∉ nms)) (fl.take i)
          have h2 : (fl.take i).length ≤ fl.length := by rw [List.length_take]; omega
          omega
        by_cases hin : x ∈ nms
        · refine ⟨rfl, .str x, rfl, .ref na, rfl, na, _, rfl, .inl (SqL.of (s6 _ _ ena3)), rfl, flat_map nms, false, (by show V.bl (!inV (.str x) (nms.map V.str)) = V.bl false; rw [inV_strs, decide_eq_true hin]; rfl), iteF ⟨s6, ?_⟩⟩
          rw [takeS ex, List.filter_append, List.filter_cons_of_neg (by simpa using hin), List.filter_nil, List.append_nil]
          exact e6
        · refine ⟨rfl, .str x, rfl, .ref na, rfl, na, _, rfl, .inl (SqL.of (s6 _ _ ena3)), rfl, flat_map nms, true, (by show V.bl (!inV (.str x) (nms.map V.str)) = V.bl true; rw [inV_strs, decide_eq_false hin]; rfl), iteT ⟨.str x, rfl, _, e6, lt _ (by rw [List.length_map]; exact hle), same_upd s6 nD, ?_⟩⟩
          rw [upd_same, takeS ex, List.filter_append, List.filter_cons_of_pos (by simpa using hin), List.map_append]
          rfl
      · rintro H6 ⟨s6, e6⟩
        rw [nfl, List.take_length] at e6
        have fle := List.length_filter_le (fun x => decide (x ∉ nms)) fl
        refine ⟨na, Da, _, _, rfl, rfl, s6 _ _ ena3, e6, hS _ (by rw [List.length_map, List.length_map]; omega), fun p3 np3 => ?_⟩
        have s7 := same_new (o := .lst (nms.map V.str ++ (fl.filter fun x => decide (x ∉ nms)).map V.str)) np3
        refine ⟨p3, nms ++ fl.filter (fun x => decide (x ∉ nms)), _, rfl, (s23.trans s6).trans s7, (s01.trans (s23.trans s6)).free np3, by rw [upd_same, List.map_append], List.nodup_append.mpr ⟨nnd, flnd.filter _, fun a ma c mc e => ?_⟩, fun z m => ?_, fun k2 mk2 m f2 mf2 => ?_⟩
        · subst e
          exact (of_decide_eq_true (List.mem_filter.mp mc).2) ma
        · rcases List.mem_append.mp m with m | m
          · exact nn5 z m
          · exact fl_5 z (List.mem_filter.mp m).1
        · rw [takeS ek] at m
          rcases List.mem_append.mp m with m | m
          · exact List.mem_append_left _ (ncov k2 mk2 m f2 mf2)
          · have e2 : k2 = kr := by
              have h1 := find_is (f := fun k : KRow => k.nm) ok.ndk mk2
              have h2 := find_is (f := fun k : KRow => k.nm) ok.ndk mkr
              rw [List.mem_singleton.mp m, h2] at h1
              exact (Option.some.inj h1).symm
            subst e2
            by_cases hin : f2.1 ∈ nms
            · exact List.mem_append_left _ hin
            · exact List.mem_append_right _ (List.mem_filter.mpr ⟨fpm.mem_iff.mpr (List.mem_map.mpr ⟨f2, mf2, rfl⟩), decide_eq_true hin⟩)
    rintro σ H2 ⟨na, nms, y4, rfl, s2, nna, ena, nnd, nn5, ncov⟩
    rw [List.length_map, List.take_length] at ncov
    have nl5 : nms.length ≤ 5 := Nat.le_trans (nd_len nnd nn5) nm5l
    have ncov' : ∀ k ∈ ks, ∀ f ∈ k.fds, f.1 ∈ nms := fun k m => ncov k m (kpm.mem_iff.mpr (List.mem_map.mpr ⟨k, m, rfl⟩))
    clear ncov
    have s02 := s01.trans s2
    obtain ⟨bx, hbx⟩ := B.lst
    have nab : na ≠ b := (ne_of_none hbx nna).symm
    have B2 : Box H2 b r := B.gr (Same.gr s02) (by rw [s02 _ _ hbx, hbx])
    -- the plan
    refine fun pd npd => ?_
    refine ⟨.ref q, rfl, .ref na, rfl, .int _, rfl, _, _, rfl, rfl, ⟨by decide, by decide⟩, fun pt npt => fun ht nht => ?_⟩
    have s3 := same_new (o := .dK []) npd
    have s4 := same_new (o := .dK []) npt
    have s5 := same_new (o := .dK []) nht
    have n_ppt : pt ≠ pd := fun e => by rw [e, upd_same] at npt; cases npt
    have n_hpt : ht ≠ pt := fun e => by rw [e, upd_same] at nht; cases nht
    have n_hpd : ht ≠ pd := fun e => by rw [e, s4 _ _ upd_same] at nht; cases nht
    have npd0 : H pd = none := s02.free npd
    have npt0 : H pt = none := (s02.trans s3).free npt
    have nht0 : H ht = none := ((s02.trans s3).trans s4).free nht
    have epd5 : (upd (upd (upd H2 pd (.dK [])) pt (.dK [])) ht (.dK [])) pd = some (.dK []) := s5 _ _ (s4 _ _ upd_same)
    have ept5 : (upd (upd (upd H2 pd (.dK [])) pt (.dK [])) ht (.dK [])) pt = some (.dK []) := s5 _ _ upd_same
    have eht5 : (upd (upd (upd H2 pd (.dK [])) pt (.dK [])) ht (.dK [])) ht = some (.dK []) := upd_same
    have s25 := (s3.trans s4).trans s5
    have B5 := ((B2.new (o := .dK []) npd).new (o := .dK []) npt).new (o := .dK []) nht
    generalize upd (upd (upd H2 pd (.dK [])) pt (.dK [])) ht (.dK []) = H5 at epd5 ept5 eht5 s25 B5 nht
    clear s3 s4 s5 npt nht
    refine ⟨epd5, [(kK "schema", .ref q), (kK "names", .ref na), (kK "room", .int ((room / 2 : Nat) : Int)), (kK "parts", .ref pt), (kK "highs", .ref ht)], (show [(V.str "schema", V.ref q), (V.str "names", V.ref na), (V.str "room", V.int ((room : Int).fdiv 2)), (V.str "parts", V.ref pt), (V.str "highs", V.ref ht)] = _ from by rw [hfd]; rfl), by show 5 ≤ 15; decide, ?_⟩
    rw [mergeK_nd ([(kK "schema", .ref q), (kK "names", .ref na), (kK "room", .int ((room / 2 : Nat) : Int)), (kK "parts", .ref pt), (kK "highs", .ref ht)] : List (Key × V)) [] (show ([kK "schema", kK "names", kK "room", kK "parts", kK "highs"] : List Key).Nodup by decide +kernel), List.nil_append]
    have npdb : pd ≠ b := (ne_of_none hbx npd0).symm
    have npdr : pd ≠ r := by
      obtain ⟨xs, e⟩ := B.rls
      exact (ne_of_none e npd0).symm
    have g05 : Gr b H H5 := Same.gr (s02.trans s25)
    have stp : ∀ {H' : Hp} {o : HO}, Gr b H H' → Gr b H (upd H' pd o) := fun g => g.upd npd0
    have gU : ∀ {H' : Hp} {o : HO} {a : Addr} {u : HO}, a ≠ pd → H' a = some u → (upd H' pd o) a = some u := fun n e => by rw [upd_ne n]; exact e
    have nap : na ≠ pd := fun e => by
      have := s25 _ _ ena
      rw [e, epd5] at this
      cases this
    have ena5 := s25 _ _ ena
    have B6 := B5.upd (o := .dK [(kK "schema", .ref q), (kK "names", .ref na), (kK "room", .int ((room / 2 : Nat) : Int)), (kK "parts", .ref pt), (kK "highs", .ref ht)]) npdb npdr
    have g6 := stp (o := .dK [(kK "schema", .ref q), (kK "names", .ref na), (kK "room", .int ((room / 2 : Nat) : Int)), (kK "parts", .ref pt), (kK "highs", .ref ht)]) g05
    have epd6 : (upd H5 pd (.dK [(kK "schema", .ref q), (kK "names", .ref na), (kK "room", .int ((room / 2 : Nat) : Int)), (kK "parts", .ref pt), (kK "highs", .ref ht)])) pd = some (.dK [(kK "schema", .ref q), (kK "names", .ref na), (kK "room", .int ((room / 2 : Nat) : Int)), (kK "parts", .ref pt), (kK "highs", .ref ht)]) := upd_same
    have ept6 := gU (o := .dK [(kK "schema", .ref q), (kK "names", .ref na), (kK "room", .int ((room / 2 : Nat) : Int)), (kK "parts", .ref pt), (kK "highs", .ref ht)]) n_ppt ept5
    have eht6 := gU (o := .dK [(kK "schema", .ref q), (kK "names", .ref na), (kK "room", .int ((room / 2 : Nat) : Int)), (kK "parts", .ref pt), (kK "highs", .ref ht)]) n_hpd eht5
    have ena6 := gU (o := .dK [(kK "schema", .ref q), (kK "names", .ref na), (kK "room", .int ((room / 2 : Nat) : Int)), (kK "parts", .ref pt), (kK "highs", .ref ht)]) nap ena5
    generalize upd H5 pd (.dK [(kK "schema", .ref q), (kK "names", .ref na), (kK "room", .int ((room / 2 : Nat) : Int)), (kK "parts", .ref pt), (kK "highs", .ref ht)]) = H6 at B6 g6 epd6 ept6 eht6 ena6
    have nptb : pt ≠ b := (ne_of_none hbx npt0).symm
    have nhtb : ht ≠ b := (ne_of_none hbx nht0).symm
    -- keys
    refine ⟨.ref b, rfl, b, r, 12, rfl, B6, by decide, fun kys kl H7 kyl kyok _ g7 B7 nkl ekl => ?_⟩
    have nklb := B6.neb nkl
    have nklp : kl ≠ pd := (ne_of_none epd6 nkl).symm
    have d7 : DPut H7 pd (V.str "keys") (V.ref kl) (upd H7 pd (.dK ([(kK "schema", .ref q), (kK "names", .ref na), (kK "room", .int ((room / 2 : Nat) : Int)), (kK "parts", .ref pt), (kK "highs", .ref ht)] ++ [(kK "keys", .ref kl)]))) := by
      have := DPut.k (k := kK "keys") (v := V.ref kl) (g7 _ _ npdb epd6) (by show 5 < sizeLine; decide)
      rw [putK_end (nk (z := "keys") (l := ["schema", "names", "room", "parts", "highs"]) (by decide +kernel))] at this
      exact this
    refine ⟨.ref pd, rfl, pd, _, rfl, d7, ?_⟩
    have B8 := B7.upd (o := .dK ([(kK "schema", .ref q), (kK "names", .ref na), (kK "room", .int ((room / 2 : Nat) : Int)), (kK "parts", .ref pt), (kK "highs", .ref ht)] ++ [(kK "keys", .ref kl)])) npdb npdr
    have g8 := stp (o := .dK ([(kK "schema", .ref q), (kK "names", .ref na), (kK "room", .int ((room / 2 : Nat) : Int)), (kK "parts", .ref pt), (kK "highs", .ref ht)] ++ [(kK "keys", .ref kl)])) (g6.trans g7)
    have epd8 : (upd H7 pd (.dK ([(kK "schema", .ref q), (kK "names", .ref na), (kK "room", .int ((room / 2 : Nat) : Int)), (kK "parts", .ref pt), (kK "highs", .ref ht)] ++ [(kK "keys", .ref kl)]))) pd = some (.dK [(kK "schema", .ref q), (kK "names", .ref na), (kK "room", .int ((room / 2 : Nat) : Int)), (kK "parts", .ref pt), (kK "highs", .ref ht), (kK "keys", .ref kl)]) := upd_same
    have ept8 := gU (o := .dK ([(kK "schema", .ref q), (kK "names", .ref na), (kK "room", .int ((room / 2 : Nat) : Int)), (kK "parts", .ref pt), (kK "highs", .ref ht)] ++ [(kK "keys", .ref kl)])) n_ppt (g7 _ _ nptb ept6)
    have eht8 := gU (o := .dK ([(kK "schema", .ref q), (kK "names", .ref na), (kK "room", .int ((room / 2 : Nat) : Int)), (kK "parts", .ref pt), (kK "highs", .ref ht)] ++ [(kK "keys", .ref kl)])) n_hpd (g7 _ _ nhtb eht6)
    have ena8 := gU (o := .dK ([(kK "schema", .ref q), (kK "names", .ref na), (kK "room", .int ((room / 2 : Nat) : Int)), (kK "parts", .ref pt), (kK "highs", .ref ht)] ++ [(kK "keys", .ref kl)])) nap (g7 _ _ nab ena6)
    have ekl8 := gU (o := .dK ([(kK "schema", .ref q), (kK "names", .ref na), (kK "room", .int ((room / 2 : Nat) : Int)), (kK "parts", .ref pt), (kK "highs", .ref ht)] ++ [(kK "keys", .ref kl)])) nklp ekl
    generalize upd H7 pd (.dK ([(kK "schema", .ref q), (kK "names", .ref na), (kK "room", .int ((room / 2 : Nat) : Int)), (kK "parts", .ref pt), (kK "highs", .ref ht)] ++ [(kK "keys", .ref kl)])) = H8 at B8 g8 epd8 ept8 eht8 ena8 ekl8
    clear d7
    -- flags
    refine ⟨.ref b, rfl, b, r, 3, rfl, B8, by decide, fun fls fl H9 fll flok _ g9 B9 nfl efl => ?_⟩
    have nflb := B8.neb nfl
    have nflp : fl ≠ pd := (ne_of_none epd8 nfl).symm
    have d9 : DPut H9 pd (V.str "flags") (V.ref fl) (upd H9 pd (.dK ([(kK "schema", .ref q), (kK "names", .ref na), (kK "room", .int ((room / 2 : Nat) : Int)), (kK "parts", .ref pt), (kK "highs", .ref ht), (kK "keys", .ref kl)] ++ [(kK "flags", .ref fl)]))) := by
      have := DPut.k (k := kK "flags") (v := V.ref fl) (g9 _ _ npdb epd8) (by show 6 < sizeLine; decide)
      rw [putK_end (nk (z := "flags") (l := ["schema", "names", "room", "parts", "highs", "keys"]) (by decide +kernel))] at this
      exact this
    refine ⟨.ref pd, rfl, pd, _, rfl, d9, ?_⟩
    have hA : ∃ o, o = HO.dK ([(kK "schema", .ref q), (kK "names", .ref na), (kK "room", .int ((room / 2 : Nat) : Int)), (kK "parts", .ref pt), (kK "highs", .ref ht), (kK "keys", .ref kl)] ++ [(kK "flags", .ref fl)]) := ⟨_, rfl⟩
    obtain ⟨oA, hA⟩ := hA
    rw [← hA]
    have BA := B9.upd (o := oA) npdb npdr
    have gA := stp (o := oA) (g8.trans g9)
    have epdA : (upd H9 pd oA) pd = some (.dK [(kK "schema", .ref q), (kK "names", .ref na), (kK "room", .int ((room / 2 : Nat) : Int)), (kK "parts", .ref pt), (kK "highs", .ref ht), (kK "keys", .ref kl), (kK "flags", .ref fl)]) := by rw [hA]; exact upd_same
    have eptA := gU (o := oA) n_ppt (g9 _ _ nptb ept8)
    have ehtA := gU (o := oA) n_hpd (g9 _ _ nhtb eht8)
    have enaA := gU (o := oA) nap (g9 _ _ nab ena8)
    have eklA := gU (o := oA) nklp (g9 _ _ nklb ekl8)
    have eflA := gU (o := oA) nflp efl
    generalize upd H9 pd oA = HA at BA gA epdA eptA ehtA enaA eklA eflA
    clear d9 hA
    -- free
    refine ⟨.ref b, rfl, b, r, 4, rfl, BA, by decide, by decide, fun dd HB _ _ gB BB => ⟨rfl, ?_⟩⟩
    generalize decide (V.int dd = V.int 1) = fr
    have dB : DPut HB pd (V.str "free") (V.bl fr) (upd HB pd (.dK (plK ⟨q, na, pt, ht, kl, fl, fr⟩ (room / 2)))) := by
      have := DPut.k (k := kK "free") (v := V.bl fr) (gB _ _ npdb epdA) (by show 7 < sizeLine; decide)
      rw [putK_end (nk (z := "free") (l := ["schema", "names", "room", "parts", "highs", "keys", "flags"]) (by decide +kernel))] at this
      exact this
    refine ⟨.ref pd, rfl, pd, _, rfl, dB, ?_⟩
    have BC := BB.upd (o := .dK (plK ⟨q, na, pt, ht, kl, fl, fr⟩ (room / 2))) npdb npdr
    have gC := stp (o := .dK (plK ⟨q, na, pt, ht, kl, fl, fr⟩ (room / 2))) (gA.trans gB)
    have epdC : (upd HB pd (.dK (plK ⟨q, na, pt, ht, kl, fl, fr⟩ (room / 2)))) pd = some (.dK (plK ⟨q, na, pt, ht, kl, fl, fr⟩ (room / 2))) := upd_same
    have eptC := gU (o := .dK (plK ⟨q, na, pt, ht, kl, fl, fr⟩ (room / 2))) n_ppt (gB _ _ nptb eptA)
    have ehtC := gU (o := .dK (plK ⟨q, na, pt, ht, kl, fl, fr⟩ (room / 2))) n_hpd (gB _ _ nhtb ehtA)
    have enaC := gU (o := .dK (plK ⟨q, na, pt, ht, kl, fl, fr⟩ (room / 2))) nap (gB _ _ nab enaA)
    have eklC := gU (o := .dK (plK ⟨q, na, pt, ht, kl, fl, fr⟩ (room / 2))) nklp (gB _ _ nklb eklA)
    have eflC := gU (o := .dK (plK ⟨q, na, pt, ht, kl, fl, fr⟩ (room / 2))) nflp (gB _ _ nflb eflA)
    generalize upd HB pd (.dK (plK ⟨q, na, pt, ht, kl, fl, fr⟩ (room / 2))) = HC at BC gC epdC eptC ehtC enaC eklC eflC
    clear dB
    have nsch : ∀ {x : Addr}, H x = none → kt ≠ x ∧ ft ≠ x ∧ ut ≠ x ∧ (∀ k ∈ ks, k.da ≠ x) ∧ ∀ f ∈ fs, f.da ≠ x := fun n => ⟨ne_of_none S.kd n, ne_of_none S.fd n, ne_of_none S.ud n, fun k m => ne_of_none (S.ka k m).d.at_ n, fun f m => ne_of_none (S.fa f m).at_ n⟩
    have cC : PCtx HC b r pd ⟨q, na, pt, ht, kl, fl, fr⟩ (room / 2) kt ft ut ks fs us root nms kys fls [] (fun _ => 0) := by
      obtain ⟨a1, a2, a3, a4, a5⟩ := nsch npd0
      exact ⟨BC, epdC, gC _ _ (ne_of hq hbx (by intro z; cases z)) hq, S.gr (Oth.lst hbx) gC, enaC, eklC, eflC, eptC, ehtC, nab, nklb, nflb, a1, a2, a3, n_ppt, n_hpd, a4, a5⟩
    have fix : ∀ ps : List PRow, ps.length ≤ 4 → (ps.map (·.nm)).Nodup → (∀ p ∈ ps, IsName p.nm) → PFix ks fs us root nms kys fls ps := fun ps h1 h2 h3 => ⟨ok, nl5, ncov', kyl, fun z m => (kyok z m).1, fll, fun z m => (flok z m).1, h1, h2, h3⟩
    -- the words of the parts
    refine ⟨.ref b, rfl, b, r, 4, rfl, BC, by decide, fun wds wl HD wdl wdok wdnd gD BD nwl ewl => ?_⟩
    have nwlb := BC.neb nwl
    have nwlp : wl ≠ pd := (ne_of_none epdC nwl).symm
    have nwlt : wl ≠ pt := (ne_of_none eptC nwl).symm
    have nwlh : wl ≠ ht := (ne_of_none ehtC nwl).symm
    have cD := cC.gr gD BD
    have gHD := gC.trans gD
    refine ⟨.ref wl, rfl, .ref b, rfl, b, r, 3, rfl, BD, by decide, by decide, fun d3 HE d30 d31 gE BE => ?_⟩
    have cE := cD.gr gE BE
    have gHE := gHD.trans gE
    have ewlE := gE _ _ nwlb ewl
    obtain ⟨cnt, hcnt, cnt4⟩ : ∃ cnt : Nat, d3 + 2 * (if decide ((room : Int) > 20) = true then (1 : Int) else 0) = (cnt : Int) ∧ cnt ≤ 4 := by
      obtain ⟨d3, rfl⟩ := Int.eq_ofNat_of_zero_le d30
      by_cases h : (room : Int) > 20
      · exact ⟨d3 + 2, by rw [decide_eq_true h, if_pos rfl]; omega, by omega⟩
      · exact ⟨d3, by rw [decide_eq_false h, if_neg (by decide)]; omega, by omega⟩
    refine ⟨.int _, rfl, _, _, rfl, rfl, .inr ⟨_, rfl, _, _, rfl, rfl, .inl ⟨by decide, by decide⟩, _, _, rfl, rfl, (cnt : Int), congrArg V.int hcnt, wl, _, rfl, SqL.of ewlE, fun p5 np5 => ?_⟩⟩
    rw [cut_to', ← List.map_take]
    have sF := same_new (o := .lst ((wds.take cnt).map V.str)) np5
    have eF : (upd HE p5 (.lst ((wds.take cnt).map V.str))) p5 = some (.lst ((wds.take cnt).map V.str)) := upd_same
    have cF := cE.same sF
    have gHF : Gr b H (upd HE p5 (.lst ((wds.take cnt).map V.str))) := gHE.trans (Same.gr sF)
    obtain ⟨n5b, n5d⟩ := cE.ne np5
    have n5t : p5 ≠ pt := (ne_of_none cE.pt np5).symm
    have n5h : p5 ≠ ht := (ne_of_none cE.ht np5).symm
    generalize upd HE p5 (.lst ((wds.take cnt).map V.str)) = HF at sF eF cF gHF
    clear cC cD cE gC gHD gHE epdC eptC ehtC enaC eklC eflC ewlE
    have lcnt : ((wds.take cnt).map V.str).length = (wds.take cnt).length := List.length_map ..
    refine ⟨p5, rfl, ⟨_, SqL.of eF⟩, for_list (xs := (wds.take cnt).map V.str) (fun i σ H' => ∃ (y4 y7 y8 y9 y10 y11 y12 y13 y14 : Option V) (ps : List PRow) (hp : Str → Nat) (rm' : Nat), σ = [some (.ref b), some (.ref q), some (.int (room : Int)), some (.ref na), y4, some (.ref pd), some (.ref wl), y7, y8, y9, y10, y11, y12, y13, y14] ∧ ps.map (·.nm) = (wds.take cnt).take i ∧
      PCtx H' b r pd ⟨q, na, pt, ht, kl, fl, fr⟩ rm' kt ft ut ks fs us root nms kys fls ps hp ∧ (∀ p ∈ ps, p.At H') ∧ Parts ks fs us ps hp fls ∧ psum ps + rm' ≤ room / 2 ∧ H' p5 = some (.lst ((wds.take cnt).map V.str)) ∧ Gr b H H') ?_ ?_ ?_ ?_⟩
    · exact ⟨y4, _, _, _, _, _, _, _, _, [], fun _ => 0, room / 2, rfl, rfl, cF, (fun p m => nomatch m), ⟨(fun p m => nomatch m), fun i p e => by simp at e⟩, by show 0 + room / 2 ≤ room / 2; omega, eF, gHF⟩
    · rintro i σ H' _ ⟨_, _, _, _, _, _, _, _, _, _, _, _, _, _, _, _, _, _, h, _⟩
      exact SqL.of h
    · rintro i y σ H7 ey ⟨y4, y7, y8, y9, y10, y11, y12, y13, y14, ps, hp, rm7, rfl, hnm, c7, hat, pk', sz, e57, g7⟩
      obtain ⟨wd', ew, rfl⟩ := strs_at ey
      have mw : wd' ∈ wds := List.mem_of_mem_take (List.mem_of_getElem? ew)
      have pnd : (ps.map (·.nm)).Nodup := by rw [hnm]; exact (wdnd.sublist (List.take_sublist _ _)).sublist (List.take_sublist _ _)
      have iw : i < (wds.take cnt).length := (List.getElem?_eq_some_iff.mp ew).1
      have cl4 : (wds.take cnt).length ≤ 4 := Nat.le_trans (List.length_take_le _ _) cnt4
      have psl : ps.length = i := by
        have := congrArg List.length hnm
        rw [List.length_map, List.length_take] at this
        omega
      have pnm : ∀ p ∈ ps, IsName p.nm := fun p m => by
        have : p.nm ∈ (wds.take cnt).take i := by rw [← hnm]; exact List.mem_map.mpr ⟨p, m, rfl⟩
        exact (wdok _ (List.mem_of_mem_take (List.mem_of_mem_take this))).1
      have wnew : wd' ∉ ps.map (·.nm) := by
        rw [hnm]
        exact name_new (f := fun z : Str => z) (by rw [List.map_id']; exact wdnd.sublist (List.take_sublist _ _)) ew |> fun h m => h (by rw [List.map_id']; exact m)
      have fx := fix ps (by omega) pnd pnm
      refine ⟨.ref q, rfl, q, kt, ft, ut, ks, fs, us, root, rfl, c7.t ok, fun bl pb H8 bpm s8 npb eb => ?_⟩
      have c8 := c7.same s8
      have bln : bl.length = ks.length + fs.length + us.length := by rw [bpm.length_eq, List.length_append, List.length_append, List.length_map, List.length_map, List.length_map]
      obtain ⟨nbb, nbd⟩ := c7.ne npb
      refine ⟨.ref pb, rfl, .ref b, rfl, .ref pb, rfl, pb, _, rfl, .inl (SqL.of eb), b, r, _, rfl, c8.B, by rw [List.length_map]; omega, by rw [List.length_map]; omega, fun d9 H9 d90 d91 g9 B9 => ?_⟩
      obtain ⟨z1, mz1, ez1⟩ := pick d90 d91
      have hz1 : z1 ∈ ks.map (·.nm) ++ (fs.map (·.nm) ++ us.map (·.nm)) := by
        have := bpm.mem_iff.mp mz1
        rw [List.append_assoc] at this
        exact this
      have c9 := c8.gr g9 B9
      refine ⟨pb, _, _, .str z1, rfl, rfl, SqL.of (g9 _ _ nbb eb), ez1, ?_⟩
      refine ⟨.ref b, rfl, .ref pd, rfl, .str z1, rfl, b, r, pd, ⟨q, na, pt, ht, kl, fl, fr⟩, rm7, kt, ft, ut, ks, fs, us, root, nms, kys, fls, ps, hp, z1, rfl, c9, fx, names_bs hz1, ok.lv hz1, fun rv rows rm10 HG c10 g10 hrow dr szr => ?_⟩
      have hvals : ∀ x, x ∈ ps.map (·.nm) → valV (htv ps hp) (Sum.inr x) = some (.int ((hp x : Nat) : Int)) := fun x mx => by
        obtain ⟨p', mp', rfl⟩ := List.mem_map.mp mx
        exact htv_val pnd mp'
      refine ⟨rv, rfl, .ref pd, rfl, pd, _, rfl, .inl ⟨_, kK "highs", .inl c10.pl, rfl, pl_highs _ rm10⟩, rv, rows, ht, htv ps hp, (fun x => x ∈ ps.map (·.nm)), hp, rfl, hrow, dr.lv, fitR_ref dr.fit, c10.ht, hvals, ?_⟩
      refine ⟨.ref pd, rfl, pd, _, rfl, .inl ⟨_, kK "parts", .inl c10.pl, rfl, pl_parts _ rm10⟩, ?_⟩
      refine ⟨.str z1, rfl, rv, rfl, hS 2 (by decide), fun tt ntt => ?_⟩
      have s11 := same_new (o := .tup [.str z1, rv]) ntt
      have e11 : (upd HG tt (.tup [.str z1, rv])) tt = some (.tup [.str z1, rv]) := upd_same
      have c11 := c10.same s11
      have g11 : Gr b H (upd HG tt (.tup [.str z1, rv])) := ((((g7.trans (Same.gr s8)).trans g9).g2n g10 npd0)).trans (Same.gr s11)
      have k711 : Tk H7 (upd HG tt (.tup [.str z1, rv])) := ((Same.tk s8).trans (c8.tk g9.g2)).trans ((c9.tk g10).trans (Same.tk s11))
      have e511 := s11 _ _ (g10 _ _ n5b n5d (g9 _ _ n5b (s8 _ _ e57)))
      have hrow11 := hrow.same s11
      generalize upd HG tt (.tup [.str z1, rv]) = HH at s11 e11 c11 g11 k711 e511 hrow11
      have dP : DPut HH pt (V.str wd') (V.ref tt) (upd HH pt (.dK (ptv (ps ++ [⟨wd', tt, z1, rv, rows⟩])))) := by
        have := DPut.k (k := Sum.inr wd') (v := V.ref tt) c11.pt (lt _ (by unfold ptv; rw [List.length_map]; omega))
        rw [putK_end (by rw [ptv_keys]; exact nk wnew)] at this
        unfold ptv at this ⊢
        rw [List.map_append]
        exact this
      refine ⟨.ref pt, rfl, .str wd', rfl, pt, _, rfl, dP, ?_⟩
      obtain ⟨hp2, ehp⟩ : ∃ hp2 : Str → Nat, hp2 = fun n => if n = wd' then htR hp rows else hp n := ⟨_, rfl⟩
      have k12 : Tk HH (upd HH pt (.dK (ptv (ps ++ [⟨wd', tt, z1, rv, rows⟩])))) := Tk.upd c11.pt (fun _ z => nomatch z)
      have nptr : pt ≠ r := by
        obtain ⟨xs, e⟩ := B.rls
        exact (ne_of_none e npt0).symm
      have nhtr : ht ≠ r := by
        obtain ⟨xs, e⟩ := B.rls
        exact (ne_of_none e nht0).symm
      have B12 := c11.B.upd (o := .dK (ptv (ps ++ [⟨wd', tt, z1, rv, rows⟩]))) nptb nptr
      have st12 : ∀ {a : Addr} {o : HO}, a ≠ pt → HH a = some o → (upd HH pt (.dK (ptv (ps ++ [⟨wd', tt, z1, rv, rows⟩])))) a = some o := fun n e => by rw [upd_ne n]; exact e
      have ept12 : (upd HH pt (.dK (ptv (ps ++ [⟨wd', tt, z1, rv, rows⟩])))) pt = some (.dK (ptv (ps ++ [⟨wd', tt, z1, rv, rows⟩]))) := upd_same
      have eht12 := st12 n_hpt c11.ht
      have epd12 := st12 (Ne.symm n_ppt) c11.pl
      have g12 : Gr b H (upd HH pt (.dK (ptv (ps ++ [⟨wd', tt, z1, rv, rows⟩])))) := g11.upd npt0
      have e512 := st12 n5t e511
      have ena12 := st12 (ne_of c11.nl c11.pt (by intro z; cases z)) c11.nl
      have ekl12 := st12 (ne_of c11.kl c11.pt (by intro z; cases z)) c11.kl
      have efl12 := st12 (ne_of c11.fl c11.pt (by intro z; cases z)) c11.fl
      generalize upd HH pt (.dK (ptv (ps ++ [⟨wd', tt, z1, rv, rows⟩]))) = HI at k12 B12 ept12 eht12 epd12 g12 e512 ena12 ekl12 efl12
      clear st12 dP
      refine ⟨.ref pd, rfl, pd, _, rfl, .inl ⟨_, kK "highs", .inl epd12, rfl, pl_highs _ rm10⟩, ?_⟩
      have hte : htv (ps ++ [⟨wd', tt, z1, rv, rows⟩]) hp2 = htv ps hp ++ [(Sum.inr wd', .int ((htR hp rows : Nat) : Int))] := by
        unfold htv
        rw [List.map_append]
        congr 1
        · refine List.map_congr_left fun p' mp' => ?_
          have : ¬ p'.nm = wd' := fun e => wnew (by rw [← e]; exact List.mem_map.mpr ⟨p', mp', rfl⟩)
          rw [ehp]
          simp only [if_neg this]
        · rw [ehp]
          simp
      have dH : DPut HI ht (V.str wd') (V.int ((htR hp rows : Nat) : Int)) (upd HI ht (.dK (htv (ps ++ [⟨wd', tt, z1, rv, rows⟩]) hp2))) := by
        have := DPut.k (k := Sum.inr wd') (v := V.int ((htR hp rows : Nat) : Int)) eht12 (lt _ (by unfold htv; rw [List.length_map]; omega))
        rw [putK_end (by
          have ek : (htv ps hp).map (·.1) = (ps.map (·.nm)).map Sum.inr := by unfold htv; rw [List.map_map, List.map_map]; rfl
          rw [ek]
          exact nk wnew)] at this
        rw [hte]
        exact this
      refine ⟨.int _, rfl, .ref ht, rfl, .str wd', rfl, ht, _, rfl, dH, ?_⟩
      have k13 : Tk HI (upd HI ht (.dK (htv (ps ++ [⟨wd', tt, z1, rv, rows⟩]) hp2))) := Tk.upd eht12 (fun _ z => nomatch z)
      have B13 := B12.upd (o := .dK (htv (ps ++ [⟨wd', tt, z1, rv, rows⟩]) hp2)) nhtb nhtr
      have g13 : Gr b H (upd HI ht (.dK (htv (ps ++ [⟨wd', tt, z1, rv, rows⟩]) hp2))) := g12.upd nht0
      have st13 : ∀ {a : Addr} {o : HO}, a ≠ ht → HI a = some o → (upd HI ht (.dK (htv (ps ++ [⟨wd', tt, z1, rv, rows⟩]) hp2))) a = some o := fun n e => by rw [upd_ne n]; exact e
      have eht13 : (upd HI ht (.dK (htv (ps ++ [⟨wd', tt, z1, rv, rows⟩]) hp2))) ht = some (.dK (htv (ps ++ [⟨wd', tt, z1, rv, rows⟩]) hp2)) := upd_same
      have a1 := st13 (Ne.symm n_hpt) ept12
      have a2 := st13 (Ne.symm n_hpd) epd12
      have a3 := st13 n5h e512
      have a4 := st13 (ne_of ena12 eht12 (by intro z; cases z)) ena12
      have a5 := st13 (ne_of ekl12 eht12 (by intro z; cases z)) ekl12
      have a6 := st13 (ne_of efl12 eht12 (by intro z; cases z)) efl12
      generalize upd HI ht (.dK (htv (ps ++ [⟨wd', tt, z1, rv, rows⟩]) hp2)) = HJ at k13 B13 g13 eht13 a1 a2 a3 a4 a5 a6
      obtain ⟨b1, b2, b3, b4, b5⟩ := nsch npd0
      have pk2 := pk'.snoc (p := ⟨wd', tt, z1, rv, rows⟩) wnew ⟨names_bs hz1, ok.lv hz1⟩ dr
      refine ⟨y4, _, _, _, _, _, _, _, y14, ps ++ [⟨wd', tt, z1, rv, rows⟩], hp2, rm10, rfl, by rw [List.map_append, hnm, takeS ew]; rfl, ⟨B13, a2, g13 _ _ (ne_of hq hbx (by intro z; cases z)) hq, S.gr (Oth.lst hbx) g13, a4, a5, a6, a1, eht13, nab, nklb, nflb, b1, b2, b3, n_ppt, n_hpd, b4, b5⟩, fun p' mp' => ?_, by rw [ehp]; exact pk2, ?_, a3, g13⟩
      · have kk := k12.trans k13
        rcases List.mem_append.mp mp' with m | m
        · exact ((hat p' m).tk k711).tk kk
        · rw [List.mem_singleton.mp m]
          exact PRow.At.tk kk ⟨e11, hrow11⟩
      · unfold psum at sz ⊢
        rw [List.map_append, List.sum_append]
        show _ + (szR rows + 0) + rm10 ≤ _
        omega
    · rintro σ H7 ⟨y4, y7, y8, y9, y10, y11, y12, y13, y14, ps, hp, rm7, rfl, hnm, c7, hat, pk', sz, e57, g7⟩
      have pnd : (ps.map (·.nm)).Nodup := by rw [hnm]; exact (wdnd.sublist (List.take_sublist _ _)).sublist (List.take_sublist _ _)
      have psl : ps.length ≤ 4 := by
        have := congrArg List.length hnm
        rw [List.length_map, List.length_take, List.length_take] at this
        omega
      have pnm : ∀ p ∈ ps, IsName p.nm := fun p m => by
        have : p.nm ∈ (wds.take cnt).take ((wds.take cnt).map V.str).length := by rw [← hnm]; exact List.mem_map.mpr ⟨p, m, rfl⟩
        exact (wdok _ (List.mem_of_mem_take (List.mem_of_mem_take this))).1
      have erm : (rm7 : Int) + (room : Int) - (room : Int).fdiv 2 = ((rm7 + room - room / 2 : Nat) : Int) := by rw [hfd]; omega
      have dR : DPut H7 pd (V.str "room") (V.int ((rm7 : Int) + (room : Int) - (room : Int).fdiv 2)) (upd H7 pd (.dK (plK ⟨q, na, pt, ht, kl, fl, fr⟩ (rm7 + room - room / 2)))) := by
        rw [erm, ← plK_put ⟨q, na, pt, ht, kl, fl, fr⟩ rm7 (rm7 + room - room / 2)]
        exact DPut.k (k := kK "room") c7.pl (by show 8 < sizeLine; decide)
      refine ⟨.ref pd, rfl, pd, _, rfl, .inl ⟨_, kK "room", .inl c7.pl, rfl, pl_room _ rm7⟩, .int _, rfl, _, _, rfl, rfl, .int _, rfl, _, _, rfl, rfl, ⟨by decide, by decide⟩, _, _, rfl, rfl, .ref pd, rfl, pd, _, rfl, dR, .ref pd, rfl, ?_⟩
      refine k pd _ (rm7 + room - room / 2) nms kys fls ps hp _ npd0 (c7.room _) (fix ps psl pnd pnm) (fun p m => (hat p m).tk (Tk.upd c7.pl (fun _ z => nomatch z))) pk' (by omega) (g7.upd npd0)
end
end NW
namespace NW
open PySem PySem.Spec PyProof.Rows L2
open TL (tl)
open StX (pa_star)
abbrev s_Lquestion : Stmt := topS 91
abbrev N_Lquestion : List Str := ["_law_box_here", "_law_schema_here", "_law_room", "_law_high", "_law_plan_here"]
theorem sc_Lquestion : FnScope N_Lquestion ["_law_box_here", "_law_schema_here", "_law_room", "_law_high"] (defScope s_Lquestion) := ⟨rfl, rfl, rfl, by decide +kernel, rfl, by decide +kernel, by decide +kernel⟩
abbrev s_Lasker : Stmt := topS 92
abbrev N_Lasker : List Str := ["_law_built", "_law_plan_here"]
theorem sc_Lasker : FnScope N_Lasker ["_law_built", "_law_plan_here"] (defScope s_Lasker) := ⟨rfl, rfl, rfl, by decide +kernel, rfl, by decide +kernel, by decide +kernel⟩
/-- a question as it is drawn -/
def Drawn (ks : List KRow) (fs : List FRow) (us : List URow) (root : Str) (rows : List St) (ps : List PRow) (fls : List Str) (room : Nat) : Prop := ∃ (nm kys : List Str) (hp : Str → Nat), PFix ks fs us root nm kys fls ps ∧ Parts ks fs us ps hp fls ∧ DrR ks fs us ps hp fls root 5 rows ∧ szR rows + psum ps ≤ room
section
variable {ks : List KRow} {fs : List FRow} {us : List URow} {root : Str} {rows : List St} {ps : List PRow} {fls : List Str} {room : Nat}
theorem Drawn.q (h : Drawn ks fs us root rows ps fls room) (l : room ≤ 40) : QOk ks fs us root rows ps fls (rkf ps) := by
  obtain ⟨nm, kys, hp, fx, pk, dr, sz⟩ := h
  exact drawn_ok fx pk dr (by omega)
theorem Drawn.fit (h : Drawn ks fs us root rows ps fls room) : fitR ks fs (bsOf ks fs us) (fun x => x ∈ ps.map (·.nm)) root rows ∧ lvR rows ≤ 5 ∧ ∀ p ∈ ps, fitR ks fs (bsOf ks fs us) (fun x => x ∈ ps.map (·.nm)) p.z p.rows ∧ lvR p.rows ≤ 2 := by
  obtain ⟨nm, kys, hp, fx, pk, dr, sz⟩ := h
  refine ⟨dr.fit, dr.lv, fun p m => ?_⟩
  obtain ⟨i, hi, e⟩ := List.getElem_of_mem m
  obtain ⟨d, _⟩ := pk.dr i p (by rw [List.getElem?_eq_getElem hi, e])
  exact ⟨fitR_mono take_sub d.fit, d.lv⟩
theorem Drawn.sz (h : Drawn ks fs us root rows ps fls room) : szR rows + psum ps ≤ room := by
  obtain ⟨nm, kys, hp, fx, pk, dr, sz⟩ := h
  exact sz
theorem Drawn.nd (h : Drawn ks fs us root rows ps fls room) : (ps.map (·.nm)).Nodup ∧ ps.length ≤ 4 := by
  obtain ⟨nm, kys, hp, fx, pk, dr, sz⟩ := h
  exact ⟨fx.nd, fx.p4⟩
end
section
variable {P : Program} {w : World} {K : PySem.W.Frag} {mg : Str → Option Value} {base : Heap}
def spLquestion : Sp := fun vs H Q _ => ∃ (b r q kt ft ut : Addr) (ks : List KRow) (fs : List FRow) (us : List URow) (root : Str) (room : Nat), vs = [.ref b, .ref q, .int (room : Int), .int 5] ∧ Box H b r ∧ SchT H q kt ft ut ks fs us root ∧ Nm5 ks ∧
  ∀ (pd pt : Addr) (kvs : List (Key × V)) (rv : V) (rows : List St) (ps : List PRow) (fls : List Str) H', H pd = none → H' pd = some (.dK kvs) → some rv = valV kvs (kK "rows") → some (V.ref pt) = valV kvs (kK "parts") → H' pt = some (.dK (ptv ps)) → (∀ p ∈ ps, p.At H') → RowAt H' rv rows → Drawn ks fs us root rows ps fls room → Gr b H H' → Box H' b r → Q (.ref pd) H'
theorem ok_Lquestion {f f1 f2 : Addr} {fd fd1 fd2 : FuncData} (D : Df K mg "_law_question" s_Lquestion f fd ["_law_box_here", "_law_schema_here", "_law_room", "_law_high"]) (D_Lplan : Df K mg "_law_plan" s_Lplan f1 fd1 ["_law_box_here", "_law_schema_here", "_law_room"]) (G_Lplan : FnOk P w K mg base CX0 9 f1 fd1 ["_law_box_here", "_law_schema_here", "_law_room"] spLplan)
    (D_Lrows : Df K mg "_law_rows" s_Lrows f2 fd2 ["_law_box_here", "_law_plan_here", "_law_base", "_law_high"]) (G_Lrows : FnOk P w K mg base CX0 14 f2 fd2 ["_law_box_here", "_law_plan_here", "_law_base", "_law_high"] (spLrows 5)) (T : Nms mg) : FnOk P w K mg base CX0 15 f fd ["_law_box_here", "_law_schema_here", "_law_room", "_law_high"] spLquestion := by
  refine D.F.ok sc_Lquestion (fun vs H Q E h => ?_) (fun cdv A outer s H vs Q E hr h => ?_)
  · obtain ⟨b, r, q, kt, ft, ut, ks, fs, us, root, room, rfl, _⟩ := h
    rfl
  · obtain ⟨b, r, q, kt, ft, ut, ks, fs, us, root, room, rfl, B, sch, nm5, k⟩ := h
    have hu := hu_of hr
    refine ⟨_, (pss_cons (ps_set (i := 4) sc_Lquestion.nd rfl (.inl rfl) (pe_call G_Lplan (hr.mono (by decide)) (by rfl) D_Lplan.g D_Lplan.F.kp D_Lplan.b .nil pass0 (pa_cons (pv 0) (pa_cons (pv 1) (pa_cons (pv 2) pa_nil)))))
      (pss_cons (ps_dput hu (pv 4) pe_str (pe_call G_Lrows (hr.mono (by decide)) (by rfl) D_Lrows.g D_Lrows.F.kp D_Lrows.b .nil pass0 (pa_cons (pv 0) (pa_cons (pv 4) (pa_cons (pe_ix ix_tup (pv 1) pe_int (fun _ _ => rfl)) (pa_cons (pv 3) pa_nil))))) rfl)
      (pss_one (ps_ret (pv 4))))), ?_⟩
    have ok := sch.2.2
    obtain ⟨bx, hbx⟩ := B.lst
    refine ⟨.ref b, rfl, .ref q, rfl, .int room, rfl, b, r, q, kt, ft, ut, ks, fs, us, root, room, rfl, B, sch, nm5, fun pd p rm nm kys fls ps hp H1 npd c fx hat pk sz g1 => ?_⟩
    have hq1 := g1 _ _ (ne_of sch.1 hbx (by intro z; cases z)) sch.1
    have hr0 : root ∈ ks.map (·.nm) ++ (fs.map (·.nm) ++ us.map (·.nm)) := List.mem_append_left _ ok.rt
    refine ⟨.ref b, rfl, .ref pd, rfl, .ref q, rfl, q, _, 3, _, rfl, rfl, .inl (.inl hq1), atI_nat (j := 3) rfl, .int 5, rfl, b, r, pd, p, rm, kt, ft, ut, ks, fs, us, root, nm, kys, fls, ps, hp, root, rfl, c, fx, names_bs hr0, ok.lv hr0, fun rv rows rm2 H2 c2 g2 hrow dr szr => ?_⟩
    have dR : DPut H2 pd (V.str "rows") rv (upd H2 pd (.dK (plK p rm2 ++ [(kK "rows", rv)]))) := by
      have := DPut.k (k := kK "rows") (v := rv) c2.pl (by show 8 < sizeLine; decide)
      rw [putK_end (show kK "rows" ∉ (plK p rm2).map (·.1) by
        rw [plK_names]
        exact nk (z := "rows") (l := ["schema", "names", "room", "parts", "highs", "keys", "flags", "free"]) (by decide +kernel))] at this
      exact this
    refine ⟨.ref pd, rfl, pd, _, rfl, dR, .ref pd, rfl, ?_⟩
    have nd9 : ((plK p rm2 ++ [(kK "rows", rv)]).map (·.1)).Nodup := by
      show ([kK "schema", kK "names", kK "room", kK "parts", kK "highs", kK "keys", kK "flags", kK "free", kK "rows"] : List Key).Nodup
      decide +kernel
    have k3 : Tk H2 (upd H2 pd (.dK (plK p rm2 ++ [(kK "rows", rv)]))) := Tk.upd c2.pl (fun _ z => nomatch z)
    have npb := ne_of c2.pl c2.B.lst.choose_spec (by intro z; cases z)
    have npr := ne_of c2.pl c2.B.rls.choose_spec (by intro z; cases z)
    refine k pd p.pt _ rv rows ps fls _ npd upd_same (valV_nd nd9 (List.mem_append_right _ (List.mem_singleton.mpr rfl))).symm (valV_nd nd9 (List.mem_append_left _ (.tail _ (.tail _ (.tail _ (.head _)))))).symm (by rw [upd_ne c2.d4]; exact c2.pt) (fun p' m => ((hat p' m).tk (c.tk g2)).tk k3) (hrow.tk k3) ⟨nm, kys, hp, fx, pk, dr, by omega⟩ ((g1.g2n g2 npd).upd npd) (c2.B.upd npb npr)
def spLasker (C CQ : Addr) : Sp := fun vs H Q _ => ∃ (x pd pt : Addr) (kvs : List (Key × V)) (r : V) (rows : List St) (ps : List PRow) (F : List Str) (rk : Str → Nat) (ks : List KRow) (fs : List FRow) (us : List URow) (root : Str), vs = [.ref x, .ref pd] ∧ BuiltAt C H x ks fs us root ∧ SchOk ks fs us root ∧
  H pd = some (.dK kvs) ∧ some r = valV kvs (kK "rows") ∧ some (V.ref pt) = valV kvs (kK "parts") ∧ H pt = some (.dK (ptv ps)) ∧ (∀ p ∈ ps, p.At H) ∧ RowAt H r rows ∧ QOk ks fs us root rows ps F rk ∧ ∀ q H', Same H H' → H q = none → QBuilt CQ H' q x r ks fs root rows ps → Q (.ref q) H'
theorem ok_Lasker {f fQ C CQ : Addr} {fd fdQ : FuncData} (D : Df K mg "_law_asker" s_Lasker f fd ["_law_built", "_law_plan_here"]) (T : Nms mg) (MQ : Mk K CQ fQ) (gQ : mg "Question" = some (.ref CQ)) (bQ : Binds K fdQ ["self", "schema", "rows", "parts"] [])
    (G_q_init : FnOk P w K mg base CX0 15 fQ fdQ ["self", "schema", "rows", "parts"] (spQInit C CQ)) : FnOk P w K mg base CX0 17 f fd ["_law_built", "_law_plan_here"] (spLasker C CQ) := by
  refine D.F.ok sc_Lasker (fun vs H Q E h => ?_) (fun cdv A outer s H vs Q E hr h => ?_)
  · obtain ⟨x, pd, pt, kvs, r, rows, ps, F, rk, ks, fs, us, root, rfl, _⟩ := h
    rfl
  · obtain ⟨x, pd, pt, kvs, r, rows, ps, F, rk, ks, fs, us, root, rfl, Bt, ok, hpd, h1, h2, hpt, hat, hrow, qk, k⟩ := h
    have hu := hu_of hr
    refine ⟨_, (pss_one (ps_ret (pe_make MQ G_q_init (hr.mono (by decide)) (by rfl) gQ bQ .nil pass0 (pa_cons (pv 0) (pa_cons (pe_dget hu (pv 1) pe_str (fun _ _ => rfl)) (pa_cons (pe_callTy call_dictD (by rfl) T.n_dict (by decide +kernel) (pa_cons (pe_dget hu (pv 1) pe_str (fun _ _ => rfl)) pa_nil)) pa_nil)))))), ?_⟩
    refine ⟨.ref x, rfl, .ref pd, rfl, pd, r, rfl, .inl ⟨kvs, kK "rows", .inl hpd, rfl, h1⟩, .ref pd, rfl, pd, .ref pt, rfl, .inl ⟨kvs, kK "parts", .inl hpd, rfl, h2⟩, pt, ptv ps, rfl, .inl hpt, fun pn npn => ?_⟩
    have s1 := same_new (o := .dK (ptv ps)) npn
    have e1 : (upd H pn (.dK (ptv ps))) pn = some (.dK (ptv ps)) := upd_same
    generalize upd H pn (.dK (ptv ps)) = H1 at s1 e1
    intro q dx nq ndq neq
    have s2 : Same H1 (upd (upd H1 dx (.own q)) q (.ins CQ dx [])) := fun b o e => by
      rw [upd_ne (ne_of_none e nq), upd_ne (ne_of_none e ndq)]
      exact e
    have s12 := s1.trans s2
    refine ⟨q, dx, x, pn, r, rows, ps, F, rk, ks, fs, us, root, rfl, upd_same, Bt.same s12, ok, s2 _ _ e1, fun p m => (hat p m).same s12, hrow.same s12, qk, fun H' g qb => ⟨rfl, k q H' (fun b o e => ?_) (s1.free nq) qb⟩⟩
    exact g _ _ (ne_of_none (s1 _ _ e) nq) (s12 _ _ e)
end
end NW
namespace NW
open PySem PySem.Spec PyProof.Rows L2
open TL (tl)
open StX (pa_star)
theorem at_len {α : Type} {l m : List α} (h : m.length = l.length) {i : Nat} {a : α} (e : l[i]? = some a) : ∃ b, m[i]? = some b := by
  have hi := (List.getElem?_eq_some_iff.mp e).1
  exact ⟨m[i]'(by omega), List.getElem?_eq_getElem _⟩
theorem map_rel {α β : Type} {f : α → β} {l m : List α} (hl : m.length = l.length) (h : ∀ (i : Nat) a b, l[i]? = some a → m[i]? = some b → f b = f a) : m.map f = l.map f := by
  refine List.ext_getElem? fun i => ?_
  rw [List.getElem?_map, List.getElem?_map]
  cases e : l[i]? with
  | none =>
    have : m[i]? = none := by
      rw [List.getElem?_eq_none_iff] at e ⊢
      omega
    rw [this]
  | some a =>
    obtain ⟨b, eb⟩ := at_len hl e
    rw [eb]
    exact congrArg some (h i a b e eb)
theorem RelK.names' {ks ks' : List KRow} (h : RelK ks ks') : ks'.map (·.nm) = ks.map (·.nm) := map_rel h.1 fun i a b ea eb => (h.2 i a b ea eb).1
theorem RelF.names' {fs fs' : List FRow} (h : RelF fs fs') : fs'.map (·.nm) = fs.map (·.nm) := map_rel h.1 fun i a b ea eb => (h.2 i a b ea eb).1
theorem RelU.names' {us us' : List URow} (h : RelU us us') : us'.map (·.nm) = us.map (·.nm) := map_rel h.1 fun i a b ea eb => (h.2 i a b ea eb).1
end NW
namespace NW
open PySem PySem.Spec PyProof.Rows L2
/-! ### == of dicts that hold tuples and dicts -/
def EqTD (K : PySem.W.Frag) (H : Hp) (F : V → V → Prop) (x y : V) : Prop :=
  (∃ a b xs ys, x = .ref a ∧ y = .ref b ∧ H a = some (.tup xs) ∧ H b = some (.tup ys) ∧ Paired F xs ys) ∨
    ∃ a b kvs lvs, x = .ref a ∧ y = .ref b ∧ H a = some (.dK kvs) ∧ H b = some (.dK lvs) ∧ kvs.length = lvs.length ∧ ∀ kv ∈ kvs, ∃ u, valV lvs kv.1 = some u ∧ F kv.2 u
/-- equal, so deep -/
def EqW (K : PySem.W.Frag) (H : Hp) : Nat → V → V → Prop
  | 0, _, _ => False
  | n + 1, x, y => (x = y ∧ flatB x = true) ∨ EqTD K H (EqW K H n) x y
section
variable {X : Cx} {pins : List (Addr × Obj)} {σ : L2.St} {H : Hp} {s : Shared}
theorem eqTD_run (I : Inv X pins σ H s) {A : Around} {F : V → V → Prop} (hu : A.units < cLine) (ih : ∀ x y v u, F x y → RelV x v → RelV y u → SeqAt.EqP X.prog X.w A.in1 s v u true) {x y : V} {v u : Value} (h : EqTD X.K H F x y) (rx : RelV x v) (ry : RelV y u)
    (E Q : Value → Shared → Prop) (q : Q (.bool true) s) : wpAny (model X.prog X.w) A (richCompare .Eq v u) Q E s := by
  rcases h with ⟨a, b, xs, ys, rfl, rfl, ha, hb, hp⟩ | ⟨a, b, kvs, lvs, rfl, rfl, ha, hb, hl, hp⟩
  · obtain rfl : v = Value.ref a := rx
    obtain rfl : u = Value.ref b := ry
    obtain ⟨its, r1, t1, _⟩ := I.tuple (a := a) (xs := xs) (.inl (.inl ha))
    obtain ⟨jts, r2, t2, _⟩ := I.tuple (a := b) (xs := ys) (.inl (.inl hb))
    have hsz : its.toArray.size = jts.toArray.size := by
      rw [List.size_toArray, List.size_toArray, ← Vals.length r1, ← Vals.length r2]
      exact Paired.length hp
    refine GQ.rc_tupG hsz hu (fun _ s' => s' = s) t1 t2 (fun i h1 h2 s' e => ?_) (fun s' e => ?_) rfl
    · subst e
      have k := items_run ih hp r1 r2 i (by simpa using h1) (by simpa using h2)
      exact k _ _ ⟨by simp, rfl⟩
    · subst e
      exact q
  · obtain rfl : v = Value.ref a := rx
    obtain rfl : u = Value.ref b := ry
    obtain ⟨_, la, va, ra, da⟩ := (show ObjOk X.prog X.w H s.heap a (.dK kvs) from I.hok a _ ha)
    obtain ⟨_, lb, vb, rb, db⟩ := (show ObjOk X.prog X.w H s.heap b (.dK lvs) from I.hok b _ hb)
    have hits := hits_run ih rb ra hp
    have hlen : (va.length == vb.length) = true := by
      rw [beq_iff_eq, ← ra.length, ← rb.length]
      exact hl
    exact PySem.W.rcP_dicts (knd := mixKind X.prog X.w) la lb da db hu (fun _ => hits) E Q (by rw [hlen]; exact q)
theorem eqW_run (I : Inv X pins σ H s) : ∀ (n : Nat) (A : Around), A.units + n < cLine → ∀ (x y : V) (v u : Value), EqW X.K H n x y → RelV x v → RelV y u → SeqAt.EqP X.prog X.w A s v u true := by
  intro n
  induction n with
  | zero => intro A _ x y v u h; exact h.elim
  | succ n ih =>
    intro A hu x y v u h rx ry
    rcases h with ⟨rfl, f⟩ | h
    · exact (eqAt_same rx ry f).eqP
    · have turn := eqTD_run I (A := A) (by omega) (ih A.in1 (by show A.units + 1 + n < cLine; omega)) h rx ry
      have hab : ∃ a b, v = .ref a ∧ u = .ref b := by
        rcases h with ⟨a, b, _, _, rfl, rfl, _⟩ | ⟨a, b, _, _, rfl, rfl, _⟩
        · exact ⟨a, b, rx, ry⟩
        · exact ⟨a, b, rx, ry⟩
      obtain ⟨a, b, rfl, rfl⟩ := hab
      by_cases e : a = b
      · rw [e]
        exact (SeqAt.EqAt.same _).eqP
      · exact SeqAt.eqP_refs e turn
end
def rEqTD (K : PySem.W.Frag) : R2 := fun x y H Q => ∃ n, n ≤ 40 ∧ EqTD K H (EqW K H n) x y ∧ Q (.bl true) H
theorem op_eqTD {X : Cx} (hu : X.A.units + 64 < cLine) : OpR X (compareOp .Eq) (rEqTD X.K) := by
  intro pins s σ H x y v u Q I rx ry h
  obtain ⟨n, hn, h, q⟩ := h
  exact eqTD_run I (A := X.A) (by omega) (eqW_run I n X.A.in1 (by show X.A.units + 1 + n < cLine; omega)) h rx ry _ _ ⟨.bl true, H, I, rfl, q⟩
/-! ### shapes, fields, rows that are equal -/
theorem paired_refl {F : V → V → Prop} : ∀ {xs : List V}, (∀ x ∈ xs, F x x) → Paired F xs xs
  | [], _ => .nil
  | x :: r, h => .cons (h x List.mem_cons_self) (paired_refl fun y m => h y (List.mem_cons_of_mem _ m))
theorem EqW.strs {K : PySem.W.Frag} {H : Hp} {a b : Addr} {l : List Str} {n : Nat} (ha : H a = some (.tup (l.map V.str))) (hb : H b = some (.tup (l.map V.str))) : EqTD K H (EqW K H (n + 1)) (.ref a) (.ref b) :=
  .inl ⟨a, b, _, _, rfl, rfl, ha, hb, paired_refl fun x m => by
    obtain ⟨z, _, rfl⟩ := List.mem_map.mp m
    exact .inl ⟨rfl, rfl⟩⟩
theorem ShAt.eqW {K : PySem.W.Frag} {H : Hp} : ∀ {s : Shp} {n : Nat} {v u : V}, s.dep < n → ShAt H v s → ShAt H u s → EqW K H n v u := by
  intro s
  induction s with
  | base z =>
    rintro n v u hn rfl rfl
    obtain ⟨m, rfl⟩ := Nat.exists_eq_succ_of_ne_zero (show n ≠ 0 by omega)
    exact .inl ⟨rfl, rfl⟩
  | sure s ih =>
    rintro n v u hn ⟨a, v', rfl, ha, hv⟩ ⟨b, u', rfl, hb, hu⟩
    have hn' : s.dep + 1 < n := hn
    obtain ⟨m, rfl⟩ := Nat.exists_eq_succ_of_ne_zero (show n ≠ 0 by omega)
    obtain ⟨m', rfl⟩ := Nat.exists_eq_succ_of_ne_zero (show m ≠ 0 by omega)
    exact .inr (.inl ⟨a, b, _, _, rfl, rfl, ha, hb, .cons (.inl ⟨rfl, rfl⟩) (.cons (ih (by omega) hv hu) .nil)⟩)
  | list s ih =>
    rintro n v u hn ⟨a, v', rfl, ha, hv⟩ ⟨b, u', rfl, hb, hu⟩
    have hn' : s.dep + 1 < n := hn
    obtain ⟨m, rfl⟩ := Nat.exists_eq_succ_of_ne_zero (show n ≠ 0 by omega)
    obtain ⟨m', rfl⟩ := Nat.exists_eq_succ_of_ne_zero (show m ≠ 0 by omega)
    exact .inr (.inl ⟨a, b, _, _, rfl, rfl, ha, hb, .cons (.inl ⟨rfl, rfl⟩) (.cons (ih (by omega) hv hu) .nil)⟩)
/-- the same names with the same shapes, in the same order -/
def EqFds (fds fds' : List Fld) : Prop := fds'.length = fds.length ∧ ∀ (i : Nat) (f f' : Fld), fds[i]? = some f → fds'[i]? = some f' → f'.1 = f.1 ∧ f'.2.2 = f.2.2
def EqK (ks ks' : List KRow) : Prop := ks'.length = ks.length ∧ ∀ (i : Nat) (k k' : KRow), ks[i]? = some k → ks'[i]? = some k' → k'.nm = k.nm ∧ k'.fcs.Perm k.fcs ∧ EqFds k.fds k'.fds
def EqF (fs fs' : List FRow) : Prop := fs'.length = fs.length ∧ ∀ (i : Nat) (k k' : FRow), fs[i]? = some k → fs'[i]? = some k' → k'.nm = k.nm ∧ EqFds k.fds k'.fds
theorem EqFds.dict {K : PySem.W.Frag} {H : Hp} {a b : Addr} {fds fds' : List Fld} (h : EqFds fds fds') (nd : (fds.map (·.1)).Nodup) (dp : ∀ f ∈ fds, f.2.2.dep ≤ 4) (ha : FldAt H a fds) (hb : FldAt H b fds') : EqTD K H (EqW K H 5) (.ref a) (.ref b) := by
  refine .inr ⟨a, b, _, _, rfl, rfl, ha.at_, hb.at_, ?_, fun kv m => ?_⟩
  · rw [show (fkv fds).length = fds.length from List.length_map .., show (fkv fds').length = fds'.length from List.length_map .., h.1]
  · obtain ⟨f, mf, rfl⟩ := List.mem_map.mp m
    obtain ⟨i, ei⟩ := List.getElem?_of_mem mf
    obtain ⟨f', ei'⟩ := at_len h.1 ei
    obtain ⟨e1, e2⟩ := h.2 i f f' ei ei'
    have nd' : (fds'.map (·.1)).Nodup := by rw [map_rel h.1 fun i a b ea eb => (h.2 i a b ea eb).1]; exact nd
    have mf' := List.mem_of_getElem? ei'
    refine ⟨f'.2.1, ?_, ShAt.eqW (s := f.2.2) (Nat.lt_succ_of_le (dp f mf)) (ha.sh f mf) (e2 ▸ hb.sh f' mf')⟩
    show valV (fkv fds') (Sum.inr f.1) = _
    rw [← e1]
    exact fkv_val nd' mf'
end NW

namespace NW
open PySem PySem.Spec PyProof.Rows L2
open TL (tl)
open StX (pa_star)
abbrev s_Schema_eq : Stmt := inClass (topS 69) 1
abbrev N_Schema_eq : List Str := ["self", "other"]
theorem sc_Schema_eq : FnScope N_Schema_eq ["self", "other"] (defScope s_Schema_eq) := ⟨rfl, rfl, rfl, by decide +kernel, rfl, by decide +kernel, by decide +kernel⟩
/-- the class, as isinstance asks for it -/
structure ClsI (K : PySem.W.Frag) (C : Addr) : Prop where
  ha : PySem.W.findIn K (.ref C) "__class__" = some (some (.builtin "object.__class__"))
  hn : PySem.W.specialIn K (.builtin "object.__class__") "__get__" = some (some (.builtin "getset_descriptor.__get__"))
  htk : PySem.W.takesIn K (.builtin "object.__class__") = some true
  hm : PySem.W.mroIn K C (.type "object") = some true
  isi : PySem.W.kitOne K (.ref C) (.ref C) = some true
structure EqM (K : PySem.W.Frag) (C f : Addr) : Prop where
  at_ : PySem.W.findIn K (.ref C) "__eq__" = some (some (.ref f))
  fn : PySem.W.isFn K (.ref f) = true
def REq (C : Addr) (a b : Addr) (H : Hp) : Prop := ∃ ks fs us root ks' fs', BuiltAt C H a ks fs us root ∧ BuiltAt C H b ks' fs' us root ∧ SchOk ks fs us root ∧ EqK ks ks' ∧ EqF fs fs'
section
variable {P : Program} {w : World} {K : PySem.W.Frag} {mg : Str → Option Value} {base : Heap}
theorem at_lt {α : Type} {l : List α} {i : Nat} {a : α} (e : l[i]? = some a) {m : List α} (h : m.length = l.length) : ∃ b, m[i]? = some b := at_len h e
theorem ok_eq {f C : Addr} {fd : FuncData} (F : Fun K "__eq__" "Schema.__eq__" s_Schema_eq f fd) (T : Nms mg) (L : ClT K C) (gS : mg "Schema" = some (.ref C)) (ci : ClsI K C) : FnOk P w K mg base CX0 1 f fd ["self", "other"] (spEq (REq C)) := by
  refine F.ok sc_Schema_eq (fun vs H Q E h => ?_) (fun cdv A outer s H vs Q E hr h => ?_)
  · obtain ⟨x, y, rfl, _⟩ := h
    rfl
  · obtain ⟨x, y, rfl, ⟨ks, fs, us, root, ks', fs', Bt, Bt', ok, ek, ef⟩, q⟩ := h
    have hu := hu_of hr
    refine ⟨_, (pss_one (ps_ret (pe_and (pe_callB call_isi (by rfl) T.n_isinstance (by decide +kernel) (pa_cons (pv 1) (pa_cons (pe_glob (v := .ref C) (by rfl) gS rfl) pa_nil))) (pe_and (pe_cmpR (op_eqTD hr.units) (pe_fld (pv 0) rfl) (pe_fld (pv 1) rfl) (nomark _)) (pe_and (pe_cmpR (op_eqTD hr.units) (pe_fld (pv 0) rfl) (pe_fld (pv 1) rfl) (nomark _)) (pe_and (pe_cmpR (op_eqTD hr.units) (pe_fld (pv 0) rfl) (pe_fld (pv 1) rfl) (nomark _)) (pe_one (pe_cmpR op_eq (pe_fld (pv 0) rfl) (pe_fld (pv 1) rfl) (nomark _))))))))), ?_⟩
    obtain ⟨dx, kt, ft, ut, k1, f1, u1, hx, S, rk, rf, ru⟩ := Bt
    obtain ⟨dy, lt, gt, vt, k2, f2, u2, hy, S', rk', rf', ru'⟩ := Bt'
    have lk : k2.length = k1.length := by rw [rk'.1, ek.1, rk.1]
    have lf : f2.length = f1.length := by rw [rf'.1, ef.1, rf.1]
    have lu : u2.length = u1.length := by rw [ru'.1, ru.1]
    have dk : ∀ (i : Nat) a b, k1[i]? = some a → k2[i]? = some b → b.nm = a.nm ∧ b.fcs = a.fcs ∧ EqFds a.fds b.fds ∧ (a.fds.map (·.1)).Nodup ∧ ∀ f ∈ a.fds, f.2.2.dep ≤ 4 := by
      intro i a b ea eb
      obtain ⟨k, hk⟩ := at_len rk.1.symm ea
      obtain ⟨k', hk'⟩ := at_len rk'.1.symm eb
      obtain ⟨a1, a2, a3, a4⟩ := rk.2 i k a hk ea
      obtain ⟨b1, b2, b3, b4⟩ := rk'.2 i k' b hk' eb
      obtain ⟨c1, c2, c3⟩ := ek.2 i k k' hk hk'
      have mk := List.mem_of_getElem? hk
      refine ⟨b1.trans (c1.trans a1.symm), sorted_one b3 a3 (b2.trans (c2.trans a2.symm)), by rw [a4, b4]; exact c3, by rw [a4]; exact (ok.kd k mk).nd, fun f m => ?_⟩
      rw [a4] at m
      exact okS_dep ((ok.kd k mk).sh f m)
    have df : ∀ (i : Nat) a b, f1[i]? = some a → f2[i]? = some b → b.nm = a.nm ∧ EqFds a.fds b.fds ∧ (a.fds.map (·.1)).Nodup ∧ ∀ f ∈ a.fds, f.2.2.dep ≤ 4 := by
      intro i a b ea eb
      obtain ⟨k, hk⟩ := at_len rf.1.symm ea
      obtain ⟨k', hk'⟩ := at_len rf'.1.symm eb
      obtain ⟨a1, a4⟩ := rf.2 i k a hk ea
      obtain ⟨b1, b4⟩ := rf'.2 i k' b hk' eb
      obtain ⟨c1, c3⟩ := ef.2 i k k' hk hk'
      have mk := List.mem_of_getElem? hk
      refine ⟨b1.trans (c1.trans a1.symm), by rw [a4, b4]; exact c3, by rw [a4]; exact (ok.fd k mk).nd, fun f m => ?_⟩
      rw [a4] at m
      exact okS_dep ((ok.fd k mk).sh f m)
    have du : ∀ (i : Nat) a b, u1[i]? = some a → u2[i]? = some b → b.nm = a.nm ∧ b.ms = a.ms := by
      intro i a b ea eb
      obtain ⟨k, hk⟩ := at_len ru.1.symm ea
      obtain ⟨k', hk'⟩ := at_len ru'.1.symm eb
      obtain ⟨a1, a2, a3⟩ := ru.2 i k a hk ea
      obtain ⟨b1, b2, b3⟩ := ru'.2 i k' b hk' eb
      have : k = k' := by rw [hk] at hk'; cases hk'; rfl
      subst this
      exact ⟨b1.trans a1.symm, sorted_one b3 a3 (b2.trans a2.symm)⟩
    have nk2 : (k2.map (·.nm)).Nodup := by
      rw [map_rel lk fun i a b ea eb => (dk i a b ea eb).1, rk.names']
      exact ok.ndk
    have nf2 : (f2.map (·.nm)).Nodup := by
      rw [map_rel lf fun i a b ea eb => (df i a b ea eb).1, rf.names']
      exact ok.ndf
    have nu2 : (u2.map (·.nm)).Nodup := by
      rw [map_rel lu fun i a b ea eb => (du i a b ea eb).1, ru.names']
      exact ok.ndu
    have e1 : EqTD K H (EqW K H 7) (.ref kt) (.ref lt) := by
      refine .inr ⟨kt, lt, _, _, rfl, rfl, S.kd, S'.kd, ?_, fun kv m => ?_⟩
      · rw [show (kkv k1).length = k1.length from List.length_map .., show (kkv k2).length = k2.length from List.length_map .., lk]
      · obtain ⟨a, ma, rfl⟩ := List.mem_map.mp m
        obtain ⟨i, ei⟩ := List.getElem?_of_mem ma
        obtain ⟨b, eb⟩ := at_len lk ei
        obtain ⟨c1, c2, c3, c4, c5⟩ := dk i a b ei eb
        have mb := List.mem_of_getElem? eb
        have ha := S.ka a ma
        have hb := S'.ka b mb
        refine ⟨.ref b.t, ?_, .inr (.inl ⟨a.t, b.t, _, _, rfl, rfl, ha.t, hb.t, .cons (.inr (EqW.strs (n := 4) ha.f (c2 ▸ hb.f))) (.cons (.inr (c3.dict c4 c5 ha.d hb.d)) .nil)⟩)⟩
        show valV (kkv k2) (Sum.inr a.nm) = _
        rw [← c1]
        exact kkv_val nk2 mb
    have e2 : EqTD K H (EqW K H 6) (.ref ft) (.ref gt) := by
      refine .inr ⟨ft, gt, _, _, rfl, rfl, S.fd, S'.fd, ?_, fun kv m => ?_⟩
      · rw [show (fkvs f1).length = f1.length from List.length_map .., show (fkvs f2).length = f2.length from List.length_map .., lf]
      · obtain ⟨a, ma, rfl⟩ := List.mem_map.mp m
        obtain ⟨i, ei⟩ := List.getElem?_of_mem ma
        obtain ⟨b, eb⟩ := at_len lf ei
        obtain ⟨c1, c3, c4, c5⟩ := df i a b ei eb
        have mb := List.mem_of_getElem? eb
        refine ⟨.ref b.da, ?_, .inr (c3.dict c4 c5 (S.fa a ma) (S'.fa b mb))⟩
        show valV (fkvs f2) (Sum.inr a.nm) = _
        rw [← c1]
        exact fkvs_val nf2 mb
    have e3 : EqTD K H (EqW K H 6) (.ref ut) (.ref vt) := by
      refine .inr ⟨ut, vt, _, _, rfl, rfl, S.ud, S'.ud, ?_, fun kv m => ?_⟩
      · rw [show (ukv u1).length = u1.length from List.length_map .., show (ukv u2).length = u2.length from List.length_map .., lu]
      · obtain ⟨a, ma, rfl⟩ := List.mem_map.mp m
        obtain ⟨i, ei⟩ := List.getElem?_of_mem ma
        obtain ⟨b, eb⟩ := at_len lu ei
        obtain ⟨c1, c2⟩ := du i a b ei eb
        have mb := List.mem_of_getElem? eb
        refine ⟨.ref b.t, ?_, .inr (EqW.strs (n := 4) (S.ua a ma) (c2 ▸ S'.ua b mb))⟩
        show valV (ukv u2) (Sum.inr a.nm) = _
        rw [← c1]
        exact ukv_val nu2 mb
    refine ⟨.ref y, rfl, _, _, _, _, true, rfl, .own C, .base (.ins hy L.cl ci.ha ci.hn ci.htk ci.hm), ci.isi, true, rfl, iteT ?_⟩
    refine ⟨.ref x, rfl, x, C, dx, _, _, rfl, hx, L.cl, L.nk, lkk .., .ref y, rfl, y, C, dy, _, _, rfl, hy, L.cl, L.nk, lkk .., 7, by decide, e1, true, rfl, iteT ?_⟩
    refine ⟨.ref x, rfl, x, C, dx, _, _, rfl, hx, L.cl, L.nf, lkf .., .ref y, rfl, y, C, dy, _, _, rfl, hy, L.cl, L.nf, lkf .., 6, by decide, e2, true, rfl, iteT ?_⟩
    refine ⟨.ref x, rfl, x, C, dx, _, _, rfl, hx, L.cl, L.nu, lku .., .ref y, rfl, y, C, dy, _, _, rfl, hy, L.cl, L.nu, lku .., 6, by decide, e3, true, rfl, iteT ?_⟩
    refine ⟨.ref x, rfl, x, C, dx, _, _, rfl, hx, L.cl, L.nr, lkr .., .ref y, rfl, y, C, dy, _, _, rfl, hy, L.cl, L.nr, lkr .., rfl, ?_⟩
    rw [decide_eq_true rfl]
    exact q H (fun _ _ e => e)
end
end NW
namespace NW
open PySem PySem.Spec PyProof.Rows L2
open TL (tl)
open StX (pa_star)

/-! ### what is the same as itself; items backwards; flags in both readings -/
theorem SameL.sc {n : Nat} {L : List Addr} {H : Hp} {x : V} (h : Sc x) : SameL n L H x x := by
  cases n with
  | zero => exact ⟨rfl, h⟩
  | succ n => exact .inl ⟨rfl, h⟩
theorem same_tup {n : Nat} {L : List Addr} {H : Hp} {a : Addr} {xs : List V} (h : H a = some (.tup xs)) (l : xs.length ≤ 1000) (hx : ∀ x ∈ xs, SameL n L H x x) : SameL (n + 1) L H (.ref a) (.ref a) :=
  .inr (.inl ⟨a, a, xs, xs, rfl, rfl, .inr ⟨h, h⟩, rfl, l, fun i u v eu ev => by
    rw [eu] at ev
    cases ev
    exact hx u (List.mem_of_getElem? eu)⟩)
mutual
theorem StAt.refl {H : Hp} {L : List Addr} : ∀ {n : Nat} {v : V} {t : St}, StAt H v t → lvS t ≤ n → smS t → SameL (2 * n) L H v v
  | 0, v, t, h, l, sm => absurd (lvS_pos t) (by omega)
  | n + 1, _, _, .field (f := f) (k := k) e r, l, sm => by
    have l' : 1 + lvR _ ≤ n + 1 := l
    have hr := r.refl (L := L) (n := n) (by omega) sm.2 sm.1
    refine same_tup (n := 2 * n + 1) e (by show 4 ≤ 1000; decide) fun x m => ?_
    rcases List.mem_cons.mp m with rfl | m
    · exact SameL.sc (.inr (.inr (.inr ⟨_, rfl⟩)))
    rcases List.mem_cons.mp m with rfl | m
    · exact SameL.sc (.inr (.inr (.inr ⟨_, rfl⟩)))
    rcases List.mem_cons.mp m with rfl | m
    · exact SameL.sc (.inr (.inr (.inr ⟨_, rfl⟩)))
    rw [List.mem_singleton.mp m]
    exact hr
  | n + 1, _, _, .kind e, l, sm => by
    refine same_tup (n := 2 * n + 1) e (by show 2 ≤ 1000; decide) fun x m => ?_
    rcases List.mem_cons.mp m with rfl | m
    · exact SameL.sc (.inr (.inr (.inr ⟨_, rfl⟩)))
    rw [List.mem_singleton.mp m]
    exact SameL.sc (.inr (.inr (.inr ⟨_, rfl⟩)))
  | n + 1, _, _, .on e r, l, sm => by
    have l' : 1 + lvR _ ≤ n + 1 := l
    have hr := r.refl (L := L) (n := n) (by omega) sm.2 sm.1
    refine same_tup (n := 2 * n + 1) e (by show 3 ≤ 1000; decide) fun x m => ?_
    rcases List.mem_cons.mp m with rfl | m
    · exact SameL.sc (.inr (.inr (.inr ⟨_, rfl⟩)))
    rcases List.mem_cons.mp m with rfl | m
    · exact SameL.sc (.inr (.inr (.inr ⟨_, rfl⟩)))
    rw [List.mem_singleton.mp m]
    exact hr
  | n + 1, _, _, .part e, l, sm => by
    refine same_tup (n := 2 * n + 1) e (by show 2 ≤ 1000; decide) fun x m => ?_
    rcases List.mem_cons.mp m with rfl | m
    · exact SameL.sc (.inr (.inr (.inr ⟨_, rfl⟩)))
    rw [List.mem_singleton.mp m]
    exact SameL.sc (.inr (.inr (.inr ⟨_, rfl⟩)))
  | n + 1, _, _, .iff e r, l, sm => by
    have l' : 1 + lvR _ ≤ n + 1 := l
    have hr := r.refl (L := L) (n := n) (by omega) sm.2 sm.1
    refine same_tup (n := 2 * n + 1) e (by show 4 ≤ 1000; decide) fun x m => ?_
    rcases List.mem_cons.mp m with rfl | m
    · exact SameL.sc (.inr (.inr (.inr ⟨_, rfl⟩)))
    rcases List.mem_cons.mp m with rfl | m
    · exact SameL.sc (.inr (.inr (.inr ⟨_, rfl⟩)))
    rcases List.mem_cons.mp m with rfl | m
    · exact SameL.sc (.inr (.inl ⟨_, rfl⟩))
    rw [List.mem_singleton.mp m]
    exact hr
theorem RowAt.refl {H : Hp} {L : List Addr} : ∀ {n : Nat} {v : V} {rows : List St}, RowAt H v rows → lvR rows ≤ n → smR rows → rows.length ≤ 6 → SameL (2 * n + 1) L H v v
  | n, _, rows, .mk e r, l, sm, l6 => same_tup e (by rw [r.len]; omega) (r.refl l sm)
theorem AllAt.refl {H : Hp} {L : List Addr} : ∀ {n : Nat} {vs : List V} {rows : List St}, AllAt H vs rows → lvR rows ≤ n → smR rows → ∀ x ∈ vs, SameL (2 * n) L H x x
  | n, _, _, .nil, l, sm => fun x m => by cases m
  | n, _, _, .cons (s := s) (rows := rows) h t, l, sm => fun x m => by
    have l' : max (lvS s) (lvR rows) ≤ n := l
    rcases List.mem_cons.mp m with rfl | m
    · exact h.refl (by omega) sm.1
    · exact t.refl (by omega) sm.2 x m
end
theorem PRow.At.refl {H : Hp} {L : List Addr} {p : PRow} {n : Nat} (h : p.At H) (l : lvR p.rows ≤ n) (sm : smR p.rows) (l6 : p.rows.length ≤ 6) : SameL (2 * n + 2) L H (.ref p.t) (.ref p.t) :=
  same_tup (n := 2 * n + 1) h.1 (by show 2 ≤ 1000; decide) fun x m => by
    rcases List.mem_cons.mp m with rfl | m
    · exact SameL.sc (.inr (.inr (.inr ⟨_, rfl⟩)))
    rw [List.mem_singleton.mp m]
    exact h.2.refl l sm l6
theorem ItsAt.rev {H : Hp} {xs : List V} {its : List Itm} (h : ItsAt H xs its) : ItsAt H xs.reverse its.reverse := by
  refine ⟨by rw [List.length_reverse, List.length_reverse]; exact h.1, fun j v e => ?_⟩
  have hj : j < xs.length := by
    have := (List.getElem?_eq_some_iff.mp e).1
    rw [List.length_reverse] at this
    exact this
  rw [List.getElem?_reverse hj] at e
  obtain ⟨i, e', hi⟩ := h.2 _ v e
  exact ⟨i, by rw [List.getElem?_reverse (by rw [← h.1]; exact hj), ← h.1]; exact e', hi⟩
theorem _root_.List.Nodup.map_inr {l : List Str} (h : l.Nodup) : (l.map (Sum.inr : Str → Key)).Nodup := List.Pairwise.map (R := fun a b : Str => a ≠ b) (S := fun a b : Key => a ≠ b) Sum.inr (fun a b h e => h (Sum.inr.inj e)) h
mutual
theorem fls_prS {ks : List KRow} {fs : List FRow} : ∀ {t : St} {pl : List Key} {z : Str} (f : Str), f ∈ flsL ((prS ks fs pl z t).map (·.t)) ↔ f ∈ flgR t.rows
  | .field g k r, pl, z, f => fls_prR (rows := r) f
  | .kind k, pl, z, f => Iff.rfl
  | .on b r, pl, z, f => fls_prR (rows := r) f
  | .part p, pl, z, f => Iff.rfl
  | .iff g b r, pl, z, f => fls_prR (rows := r) f
theorem fls_prR {ks : List KRow} {fs : List FRow} : ∀ {rows : List St} {pl : List Key} {z : Str} {k : Nat} (f : Str), f ∈ flsL ((prR ks fs pl z k rows).map (·.t)) ↔ f ∈ flgR rows
  | [], pl, z, k, f => Iff.rfl
  | s :: r, pl, z, k, f => by
    have h1 := fls_prS (ks := ks) (fs := fs) (t := s) (pl := pl ++ [Sum.inl (k : Int)]) (z := z) f
    have h2 := fls_prR (ks := ks) (fs := fs) (rows := r) (pl := pl) (z := z) (k := k + 1) f
    show f ∈ (s :: (prS ks fs (pl ++ [Sum.inl (k : Int)]) z s ++ prR ks fs pl z (k + 1) r).map (·.t)).filterMap flS ↔ f ∈ flgS s ++ flgR r
    rw [List.map_append, List.mem_append, flgS_rows, List.mem_append, ← h1, ← h2]
    unfold flsL
    rw [List.filterMap_cons]
    cases h : flS s with
    | none =>
      dsimp only
      rw [List.filterMap_append, List.mem_append]
      simp
    | some g =>
      dsimp only
      rw [List.mem_cons, List.filterMap_append, List.mem_append]
      simp [or_assoc]
end
theorem flags_all {ks : List KRow} {fs : List FRow} {ps : List PRow} {root : Str} {rows : List St} (nd : (ps.map (·.nm)).Nodup) (z : Str) : z ∈ flsL ((allItems ks fs ps root rows).map (·.t)) ↔ z ∈ flgR rows ∨ ∃ p ∈ ps, z ∈ flgR p.rows := by
  unfold allItems flsL
  rw [List.map_append, List.filterMap_append, List.mem_append]
  refine or_congr (fls_prR z) ?_
  rw [List.mem_filterMap]
  constructor
  · rintro ⟨t, mt, e⟩
    obtain ⟨i, mi, rfl⟩ := List.mem_map.mp mt
    obtain ⟨n, mn, mi⟩ := List.mem_flatMap.mp mi
    obtain ⟨p, mp, rfl⟩ := List.mem_map.mp ((srt_perm _).mem_iff.mp mn)
    rw [pItems_of nd mp] at mi
    exact ⟨p, mp, (fls_prR (ks := ks) (fs := fs) (pl := [Sum.inr p.nm]) (z := p.z) (k := 0) z).mp (List.mem_filterMap.mpr ⟨i.t, List.mem_map.mpr ⟨i, mi, rfl⟩, e⟩)⟩
  · rintro ⟨p, mp, m⟩
    obtain ⟨t, mt, e⟩ := List.mem_filterMap.mp ((fls_prR (ks := ks) (fs := fs) (pl := [Sum.inr p.nm]) (z := p.z) (k := 0) z).mpr m)
    obtain ⟨i, mi, rfl⟩ := List.mem_map.mp mt
    exact ⟨i.t, List.mem_map.mpr ⟨i, List.mem_flatMap.mpr ⟨p.nm, (srt_perm _).mem_iff.mpr (List.mem_map.mpr ⟨p, mp, rfl⟩), by rw [pItems_of nd mp]; exact mi⟩, rfl⟩, e⟩
theorem EqFds.refl (fds : List Fld) : EqFds fds fds := ⟨rfl, fun i f f' e e' => by rw [e] at e'; cases e'; exact ⟨rfl, rfl⟩⟩
theorem EqK.refl (ks : List KRow) : EqK ks ks := ⟨rfl, fun i f f' e e' => by rw [e] at e'; cases e'; exact ⟨rfl, List.Perm.refl _, EqFds.refl _⟩⟩
theorem EqF.refl (fs : List FRow) : EqF fs fs := ⟨rfl, fun i f f' e e' => by rw [e] at e'; cases e'; exact ⟨rfl, EqFds.refl _⟩⟩
end NW
namespace NW
open PySem PySem.Spec PyProof.Rows L2
open TL (tl)
open StX (pa_star)
abbrev s_law : Stmt := topS 93
abbrev N_law : List Str := ["_law_script", "_law_box_here", "_law_schema_here", "_law_plan_here", "_law_built", "_law_question_here", "_law_found", "_law_step", "_law_turn", "_law_parts", "_law_flags_here"]
theorem sc_law : FnScope N_law ["_law_script"] (defScope s_law) := ⟨rfl, rfl, rfl, by decide +kernel, rfl, by decide +kernel, by decide +kernel⟩
section
variable {P : Program} {w : World} {K : PySem.W.Frag} {mg : Str → Option Value} {base : Heap}
def spLaw (K : PySem.W.Frag) : Sp := fun vs H Q _ => ∃ (a : Addr) (ns : List Int), vs = [.ref a] ∧ SqL K H a (ns.map V.int) ∧ ns.length ≤ 63 ∧ ∀ H', Q (.bl true) H'
theorem ok_law {f f1 f2 f3 f4 f5 f6 f7 f8 m1 m2 m3 fE C CQ : Addr} {fd fd1 fd2 fd3 fd4 fd5 fd6 fd7 fd8 gd1 gd2 gd3 fdE : FuncData} (D : Df K mg "law" s_law f fd ["_law_script"])
    (D_Lbox : Df K mg "_law_box" s_Lbox f1 fd1 ["_law_script"]) (G_Lbox : FnOk P w K mg base CX0 1 f1 fd1 ["_law_script"] (spLbox K))
    (D_Lschema : Df K mg "_law_schema" s_Lschema f2 fd2 ["_law_box_here", "_law_most", "_law_kinds"]) (G_Lschema : FnOk P w K mg base CX0 4 f2 fd2 ["_law_box_here", "_law_most", "_law_kinds"] spLschema)
    (D_Lquestion : Df K mg "_law_question" s_Lquestion f3 fd3 ["_law_box_here", "_law_schema_here", "_law_room", "_law_high"]) (G_Lquestion : FnOk P w K mg base CX0 15 f3 fd3 ["_law_box_here", "_law_schema_here", "_law_room", "_law_high"] spLquestion)
    (D_Lmade : Df K mg "_law_made" s_Lmade f4 fd4 ["_law_schema_here"]) (G_Lmade : FnOk P w K mg base CX0 11 f4 fd4 ["_law_schema_here"] (spLmade C))
    (D_Lasker : Df K mg "_law_asker" s_Lasker f5 fd5 ["_law_built", "_law_plan_here"]) (G_Lasker : FnOk P w K mg base CX0 17 f5 fd5 ["_law_built", "_law_plan_here"] (spLasker C CQ))
    (D_Lall_steps : Df K mg "_law_all_steps" s_Lall_steps f6 fd6 ["_law_schema_here", "_law_rows_here", "_law_parts"]) (G_Lall_steps : FnOk P w K mg base CX0 8 f6 fd6 ["_law_schema_here", "_law_rows_here", "_law_parts"] spLallSteps)
    (D_Lsame : Df K mg "_law_same" s_Lsame f7 fd7 ["_law_one", "_law_other"]) (G_Lsame : FnOk P w K mg base CX0 13 f7 fd7 ["_law_one", "_law_other"] (spLsame 12))
    (D_Lflags : Df K mg "_law_flags" s_Lflags f8 fd8 ["_law_rows_here", "_law_parts"]) (G_Lflags : FnOk P w K mg base CX0 7 f8 fd8 ["_law_rows_here", "_law_parts"] (spLflags 6))
    (M_base_at : Mt K CQ "base_at" "Question.base_at" s_Question_base_at m1 gd1 ["self", "place"]) (G_base_at : FnOk P w K mg base CX0 3 m1 gd1 ["self", "place"] (spQBaseAt CQ))
    (M_parts : Mt K CQ "parts" "Question.parts" s_Question_parts m2 gd2 ["self"]) (G_parts : FnOk P w K mg base CX0 1 m2 gd2 ["self"] (spQParts CQ))
    (M_flags : Mt K CQ "flags" "Question.flags" s_Question_flags m3 gd3 ["self"]) (G_flags : FnOk P w K mg base CX0 2 m3 gd3 ["self"] (spQFlags CQ))
    (mE : EqM K C fE) (bE : Binds K fdE ["self", "other"] []) (G_eq : FnOk P w K mg base CX0 1 fE fdE ["self", "other"] (spEq (REq C))) (LQ : QT K CQ) (T : Nms mg) : FnOk P w K mg base CX0 18 f fd ["_law_script"] (spLaw K) := by
  refine D.F.ok sc_law (fun vs H Q E h => ?_) (fun cdv A outer s H vs Q E hr h => ?_)
  · obtain ⟨a, ns, rfl, _⟩ := h
    rfl
  · obtain ⟨a, ns, rfl, ha, hns, k⟩ := h
    have hu := hu_of hr
    refine ⟨_, (pss_cons (ps_set (i := 1) sc_law.nd rfl (.inl rfl) (pe_call G_Lbox (hr.mono (by decide)) (by rfl) D_Lbox.g D_Lbox.F.kp D_Lbox.b .nil pass0 (pa_cons (pv 0) pa_nil)))
      (pss_cons (ps_set (i := 2) sc_law.nd rfl (.inl rfl) (pe_call G_Lschema (hr.mono (by decide)) (by rfl) D_Lschema.g D_Lschema.F.kp D_Lschema.b .nil pass0 (pa_cons (pv 1) (pa_cons pe_int (pa_cons pe_int pa_nil)))))
      (pss_cons (ps_set (i := 3) sc_law.nd rfl (.inl rfl) (pe_call G_Lquestion (hr.mono (by decide)) (by rfl) D_Lquestion.g D_Lquestion.F.kp D_Lquestion.b .nil pass0 (pa_cons (pv 1) (pa_cons (pv 2) (pa_cons pe_int (pa_cons pe_int pa_nil))))))
      (pss_cons (ps_set (i := 4) sc_law.nd rfl (.inl rfl) (pe_call G_Lmade (hr.mono (by decide)) (by rfl) D_Lmade.g D_Lmade.F.kp D_Lmade.b .nil pass0 (pa_cons (pv 2) pa_nil)))
      (pss_cons (ps_set (i := 5) sc_law.nd rfl (.inl rfl) (pe_call G_Lasker (hr.mono (by decide)) (by rfl) D_Lasker.g D_Lasker.F.kp D_Lasker.b .nil pass0 (pa_cons (pv 4) (pa_cons (pv 3) pa_nil))))
      (pss_cons (ps_set (i := 6) sc_law.nd rfl (.inl rfl) (pe_call G_Lall_steps (hr.mono (by decide)) (by rfl) D_Lall_steps.g D_Lall_steps.F.kp D_Lall_steps.b .nil pass0 (pa_cons (pv 2) (pa_cons (pe_dget hu (pv 3) pe_str (fun _ _ => rfl)) (pa_cons (pe_dget hu (pv 3) pe_str (fun _ _ => rfl)) pa_nil)))))
      (pss_cons (ps_for PassesOwn.never rfl (pi_list (pe_op op_cat (pv 6) (pe_revL (pv 6)))) (pg_name (i := 7) sc_law.nd rfl (.inl rfl))
       (pss_one (ps_if (pt_not (pt_val (pe_call G_Lsame (hr.mono (by decide)) (by rfl) D_Lsame.g D_Lsame.F.kp D_Lsame.b .nil pass0 (pa_cons (pe_meth (pv 5) LQ.cl M_base_at.m G_base_at (hr.mono (by decide)) M_base_at.b .nil pass0 (pa_cons (pe_ix ix_tup (pv 7) pe_int (fun _ _ => rfl)) pa_nil)) (pa_cons (pe_ix ix_tup (pv 7) pe_int (fun _ _ => rfl)) pa_nil)))))
         (pss_one (ps_ret pe_bl))
         pss_nil)))
      (pss_cons (ps_for PassesOwn.never rfl (pi_range1 (by rfl) T.n_range (pa_cons pe_int pa_nil)) (pg_name (i := 8) sc_law.nd rfl (.inl rfl))
       (pss_cons (ps_set (i := 9) sc_law.nd rfl (.inl rfl) (pe_meth0 (pv 5) LQ.cl M_parts.m G_parts (hr.mono (by decide)) M_parts.b .nil pass0))
        (pss_cons (ps_set (i := 10) sc_law.nd rfl (.inl rfl) (pe_meth0 (pv 5) LQ.cl M_flags.m G_flags (hr.mono (by decide)) M_flags.b .nil pass0))
        (pss_cons (ps_if (PW.pt (pw_or (pt_not (pt_val (pe_call G_Lsame (hr.mono (by decide)) (by rfl) D_Lsame.g D_Lsame.F.kp D_Lsame.b .nil pass0 (pa_cons (pv 9) (pa_cons (pe_dget hu (pv 3) pe_str (fun _ _ => rfl)) pa_nil))))) (pw_or1 (pt_not (pt_val (pe_call G_Lsame (hr.mono (by decide)) (by rfl) D_Lsame.g D_Lsame.F.kp D_Lsame.b .nil pass0 (pa_cons (pv 10) (pa_cons (pe_call G_Lflags (hr.mono (by decide)) (by rfl) D_Lflags.g D_Lflags.F.kp D_Lflags.b .nil pass0 (pa_cons (pe_dget hu (pv 3) pe_str (fun _ _ => rfl)) (pa_cons (pe_dget hu (pv 3) pe_str (fun _ _ => rfl)) pa_nil))) pa_nil))))))))
         (pss_one (ps_ret pe_bl))
         pss_nil)
        (pss_cons (ps_expr (pe_bm0 PySem.F.plainAttrs_dict PySem.F.slot_dict_clear PySem.F.type_dict_clear mtd_clear (pv 9)))
        (pss_one (ps_expr (pe_bm PySem.F.plainAttrs_list PySem.F.slot_list_append PySem.F.type_list_append mt_append (pv 10) (pa_cons pe_str pa_nil)))))))))
      (pss_one (ps_ret (pe_and (pe_cmpR (op_eqG (rcG_ins G_eq mE.at_ mE.fn bE pass0) (hr.mono (by decide))) (pe_fld (pv 5) rfl) (pv 4) (nomark _)) (pe_one (pe_call G_Lsame (hr.mono (by decide)) (by rfl) D_Lsame.g D_Lsame.F.kp D_Lsame.b .nil pass0 (pa_cons (pe_fld (pv 5) rfl) (pa_cons (pe_dget hu (pv 3) pe_str (fun _ _ => rfl)) pa_nil))))))))))))))), ?_⟩
    have hS : ∀ n : Nat, n ≤ 1000 → n ≤ sizeLine := fun n h => Nat.le_trans h (by decide)
    have lt : ∀ n : Nat, n ≤ 1000 → n < sizeLine := fun n h => Nat.lt_of_le_of_lt h (by decide)
    refine ⟨.ref a, rfl, a, ns, rfl, ha, hns, fun H1 b r _ _ _ B1 => ?_⟩
    refine ⟨.ref b, rfl, b, r, 3, 6, rfl, B1, by decide, by decide, by decide, fun q kt ft ut ks fs us root H2 hq S ok nm5 g2 B2 => ?_⟩
    refine ⟨.ref b, rfl, .ref q, rfl, b, r, q, kt, ft, ut, ks, fs, us, root, 18, rfl, B2, ⟨hq, S, ok⟩, nm5, fun pd pt kvs rv rows ps fls H3 _ hpd vrows vparts hpt hat hrow dr g3 B3 => ?_⟩
    obtain ⟨bx, hbx⟩ := B2.lst
    have hq3 := g3 _ _ (ne_of hq hbx (by intro z; cases z)) hq
    have S3 : SchAt H3 kt ft ut ks fs us := S.gr (Oth.lst hbx) g3
    have qk := dr.q (by decide)
    obtain ⟨fitr, lvr, fitp⟩ := dr.fit
    obtain ⟨pnd, p4⟩ := dr.nd
    have sz := dr.sz
    have lall : (allItems ks fs ps root rows).length ≤ 18 := by rw [all_len pnd]; exact sz
    refine ⟨.ref q, rfl, q, kt, ft, ut, ks, fs, us, root, rfl, ⟨hq3, S3, ok⟩, fun x H4 Bt s4 nx => ?_⟩
    refine ⟨.ref x, rfl, .ref pd, rfl, x, pd, pt, kvs, rv, rows, ps, fls, rkf ps, ks, fs, us, root, rfl, Bt, ok, s4 _ _ hpd, vrows, vparts, s4 _ _ hpt, fun p m => (hat p m).same s4, hrow.same s4, qk, fun qq H5 s5 nqq Qb => ?_⟩
    have s45 := s4.trans s5
    have dgr : ∀ {H' : Hp}, Same H5 H' → DGet H' pd (V.str "rows") (some rv) := fun s => .inl ⟨kvs, kK "rows", .inl (s _ _ (s45 _ _ hpd)), rfl, vrows⟩
    have dgp : ∀ {H' : Hp}, Same H5 H' → DGet H' pd (V.str "parts") (some (.ref pt)) := fun s => .inl ⟨kvs, kK "parts", .inl (s _ _ (s45 _ _ hpd)), rfl, vparts⟩
    refine ⟨.ref q, rfl, .ref pd, rfl, pd, rv, rfl, dgr (Same.refl _), .ref pd, rfl, pd, .ref pt, rfl, dgp (Same.refl _), q, kt, ft, ut, pt, ks, fs, us, root, rv, rows, ps, bsOf ks fs us, _, rfl, ⟨s45 _ _ hq3, S3.same s45, ok⟩, hrow.same s45, fitr, lvr, s45 _ _ hpt, pnd, p4, fun p m => ⟨(hat p m).same s45, (fitp p m).1, by have := (fitp p m).2; omega⟩, by omega, fun d xs H6 s6 nd ed hits => ?_⟩
    have s56 := s6
    have lxs := hits.1
    -- forwards and backwards
    refine ⟨.ref d, rfl, .ref d, rfl, d, xs, rfl, SqL.of ed, fun rv1 nrv => ?_⟩
    have s7 := same_new (o := .lst xs.reverse) nrv
    refine ⟨d, rv1, _, _, rfl, rfl, s7 _ _ ed, upd_same, hS _ (by rw [List.length_reverse]; omega), fun al nal => ?_⟩
    have s8 := same_new (o := .lst (xs ++ xs.reverse)) nal
    have eal : (upd (upd H6 rv1 (.lst xs.reverse)) al (.lst (xs ++ xs.reverse))) al = some (.lst (xs ++ xs.reverse)) := upd_same
    have s58 := (s6.trans s7).trans s8
    have hits8 : ItsAt (upd (upd H6 rv1 (.lst xs.reverse)) al (.lst (xs ++ xs.reverse))) (xs ++ xs.reverse) (allItems ks fs ps root rows ++ (allItems ks fs ps root rows).reverse) := (hits.app hits.rev).tk (Same.tk (s7.trans s8))
    generalize upd (upd H6 rv1 (.lst xs.reverse)) al (.lst (xs ++ xs.reverse)) = H8 at s8 eal s58 hits8
    refine ⟨al, rfl, ⟨_, SqL.of eal⟩, for_list (xs := xs ++ xs.reverse) (fun i σ H' => ∃ y7 : Option V, σ = [some (.ref a), some (.ref b), some (.ref q), some (.ref pd), some (.ref x), some (.ref qq), some (.ref d), y7, none, none, none] ∧ Same H8 H') ⟨none, rfl, Same.refl _⟩ ?_ ?_ ?_⟩
    · rintro i σ H' _ ⟨_, _, s⟩
      exact SqL.of (s _ _ eal)
    · rintro i y σ H9 ey ⟨y7, rfl, s9⟩
      obtain ⟨it, eit, hit⟩ := (hits8.tk (Same.tk s9)).2 i y ey
      obtain ⟨ia, ip, is, rfl, h1, h2, h3⟩ := hit
      have mit : it ∈ allItems ks fs ps root rows := by
        rcases List.mem_append.mp (List.mem_of_getElem? eit) with m | m
        · exact m
        · exact List.mem_reverse.mp m
      have ln : it.pl.length ≤ 1000 := Nat.le_trans (lvl_len (qk.gd it mit).lv) (by decide)
      obtain ⟨dx, pt', st, es, hqq, _⟩ := id (Qb.same (s58.trans s9))
      refine ⟨.ref qq, rfl, qq, dx, _, rfl, hqq, lqn _ _ _ _ (by decide +kernel) (by decide +kernel) (by decide +kernel) (by decide +kernel), .ref ia, rfl, ia, _, 0, _, rfl, rfl, .inl (.inl h1), atI_nat (j := 0) rfl, qq, ip, x, it, rv, ks, fs, root, rows, ps, rfl, Qb.same (s58.trans s9), pnd, mit, h2, ln, fun H10 s10 => ?_⟩
      refine ⟨.ref ia, rfl, ia, _, 1, _, rfl, rfl, .inl (.inl (s10 _ _ h1)), atI_nat (j := 1) rfl, .str it.z, .str it.z, rfl, SameL.sc (.inr (.inr (.inr ⟨_, rfl⟩))), fun H11 s11 => ⟨true, rfl, iteF ⟨_, rfl, s9.trans (s10.trans s11)⟩⟩⟩
    rintro σ H9 ⟨y7, rfl, s9⟩
    have s59 := s58.trans s9
    -- twice
    refine ⟨2, rfl, by decide, by decide, for_range (lo := 0) (n := 2) (fun i σ H' => ∃ y8 y9 y10 : Option V, σ = [some (.ref a), some (.ref b), some (.ref q), some (.ref pd), some (.ref x), some (.ref qq), some (.ref d), y7, y8, y9, y10] ∧ Same H5 H') ⟨none, none, none, rfl, s59⟩ ?_ ?_⟩
    · rintro i σ H10 hi ⟨y8, y9, y10, rfl, s10⟩
      obtain ⟨dx, pt', st, es, hqq, _⟩ := id (Qb.same s10)
      refine ⟨.ref qq, rfl, qq, dx, _, rfl, hqq, lqn _ _ _ _ (by decide +kernel) (by decide +kernel) (by decide +kernel) (by decide +kernel), qq, x, rv, ks, fs, root, rows, ps, rfl, Qb.same s10, fun pn npn => ?_⟩
      have s11 := same_new (o := .dK (ptv ps)) npn
      have epn : (upd H10 pn (.dK (ptv ps))) pn = some (.dK (ptv ps)) := upd_same
      have s511 := s10.trans s11
      have npn5 : H5 pn = none := s10.free npn
      generalize upd H10 pn (.dK (ptv ps)) = H11 at s11 epn s511
      refine ⟨.ref qq, rfl, qq, dx, _, rfl, s11 _ _ hqq, lqn _ _ _ _ (by decide +kernel) (by decide +kernel) (by decide +kernel) (by decide +kernel), qq, x, rv, ks, fs, root, rows, ps, rfl, Qb.same s511, pnd, by omega, fun ys pf H12 ynd yso yme s12 npf epf => ?_⟩
      have s512 := s511.trans s12
      have npf5 : H5 pf = none := s511.free npf
      have epn12 := s12 _ _ epn
      have hpt12 := s512 _ _ (s45 _ _ hpt)
      have nppt : pn ≠ pt := fun e => by rw [← e] at hpt; rw [s45 _ _ hpt] at npn5; cases npn5
      have same1 : SameV 12 H12 (.ref pn) (.ref pt) := by
        refine .inr (.inr ⟨pn, pt, _, _, rfl, rfl, by simp, by simp, epn12, hpt12, rfl, by unfold ptv; rw [List.length_map]; omega, by rw [ptv_keys]; exact List.Nodup.map_inr pnd, fun kk v m => ?_⟩)
        obtain ⟨p', mp', e⟩ := List.mem_map.mp m
        cases e
        refine ⟨.ref p'.t, ptv_val pnd mp', ?_⟩
        have hp' := ((hat p' mp').same s45).same s512
        exact (hp'.refl (n := 2) (fitp p' mp').2 (fit_smR (fitp p' mp').1) (qk.po.r6 p' mp').1).upTo (by decide)
      refine ⟨.ref pn, rfl, .ref pd, rfl, pd, .ref pt, rfl, dgp s512, .ref pn, .ref pt, rfl, same1, fun H13 s13 => ⟨true, rfl, iteF ?_⟩⟩
      have s513 := s512.trans s13
      refine ⟨.ref pf, rfl, .ref pd, rfl, pd, rv, rfl, dgr s513, .ref pd, rfl, pd, .ref pt, rfl, dgp s513, rv, rows, pt, ps, rfl, (hrow.same s45).same s513, by omega, s513 _ _ (s45 _ _ hpt), fun p' m => ⟨((hat p' m).same s45).same s513, by have := (fitp p' m).2; omega⟩, pnd, by rw [psum_psz pnd]; omega, by omega, fun zs p2 H14 znd zso zme zl s14 np2 e2 => ?_⟩
      have eyz : ys = zs := sorted_one yso zso ((List.perm_ext_iff_of_nodup ynd znd).mpr fun z => by
        rw [yme z, zme z]
        exact flags_all pnd z)
      have zlen : zs.length ≤ 1000 := by rw [psum_psz pnd] at zl; omega
      have epf14 := (s13.trans s14) _ _ epf
      have same2 : SameV 12 H14 (.ref pf) (.ref p2) := SameL.upTo (SameV.strs (eyz ▸ epf14) e2 zlen) (by decide)
      refine ⟨.ref pf, .ref p2, rfl, same2, fun H15 s15 => ⟨true, rfl, iteF ?_⟩⟩
      have s515 := (s513.trans s14).trans s15
      have epn15 := ((s13.trans s14).trans s15) _ _ epn12
      have epf15 := s15 _ _ epf14
      refine ⟨.ref pn, rfl, .inr (.inr (.inl ⟨rfl, .inl ⟨_, epn15⟩⟩)), pn, _, rfl, rfl, epn15, ?_⟩
      have s516 := same_upd (o := .dK []) s515 npn5
      have npfn : pf ≠ pn := ne_of epf15 epn15 (by intro z; cases z)
      have epf16 : (upd H15 pn (.dK [])) pf = some (.lst (ys.map V.str)) := by rw [upd_ne npfn]; exact epf15
      refine ⟨.ref pf, rfl, .inl ⟨rfl, _, SqL.of epf16⟩, pf, _, _, rfl, rfl, epf16, lt _ (by rw [List.length_map, eyz]; omega), ?_⟩
      exact ⟨_, _, _, rfl, same_upd s516 npf5⟩
    · rintro σ H10 ⟨y8, y9, y10, rfl, s10⟩
      obtain ⟨dx, pt', st, es, hqq, _⟩ := id (Qb.same s10)
      have Bt10 := (Bt.same s5).same s10
      obtain ⟨dxx, kt', ft', ut', _, _, _, hx, _⟩ := id Bt10
      refine ⟨.ref qq, rfl, qq, CQ, dx, _, _, rfl, hqq, LQ.cl, LQ.n1, lqs .., .ref x, rfl, ⟨x, x, dxx, dxx, _, _, rfl, rfl, hx, hx, ks, fs, us, root, ks, fs, Bt10, Bt10, ok, EqK.refl ks, EqF.refl fs⟩, fun H11 s11 => ⟨true, rfl, iteT ?_⟩⟩
      refine ⟨.ref qq, rfl, qq, CQ, dx, _, _, rfl, s11 _ _ hqq, LQ.cl, LQ.n2, lqr .., .ref pd, rfl, pd, rv, rfl, dgr (s10.trans s11), rv, rv, rfl, ?_, fun H12 _ => k H12⟩
      exact (((hrow.same s45).same (s10.trans s11)).refl (n := 5) lvr (fit_smR fitr) qk.r6).upTo (by decide)
end
end NW
namespace NW
open PySem PySem.Spec PyProof.Rows L2
section
variable {K : PySem.W.Frag} {h : Heap} {mg : Str → Option Value} {nm qn : Str} {d0 : Stmt} {fa C : Addr} {pars : List Str} {oc kV dc pm cd ct : Value} {od an : Option Addr} {sl : Array (Option Value)}
theorem df_mk (X : K.In h) (G : h.Ns mainGlobals mg) (a : PySem.W.nsIn K mainGlobals nm = some (some (.ref fa)))
    (l : K.lookup fa = some ⟨oc, od, .func (PySem.W.fnOf nm nm (defArgs d0) (defBody d0) (defScope d0) .none kV dc pm an cd ct), sl⟩) (c : PySem.W.codeIn K cd nm = true) (k : PySem.W.keepIn K (.ref fa) = true)
    (b : ∀ (kV doc pm : Value) (an : Option Addr) (cdv ct : Value) (us : List Value), us.length = pars.length → bindArgs (PySem.W.fnOf nm nm (defArgs d0) (defBody d0) (defScope d0) .none kV doc pm an cdv ct) ⟨us, []⟩ = pure (pars.zip us)) :
    ∃ f fd, Df K mg nm d0 f fd pars := ⟨fa, _, fun_mk l c k, (fun_mk l c k).binds b, PySem.W.mg_of X G a⟩
theorem mt_mk (a : PySem.W.findIn K (.ref C) nm = some (some (.ref fa))) (i : PySem.W.isFn K (.ref fa) = true)
    (l : K.lookup fa = some ⟨oc, od, .func (PySem.W.fnOf nm qn (defArgs d0) (defBody d0) (defScope d0) .none kV dc pm an cd ct), sl⟩) (c : PySem.W.codeIn K cd qn = true) (k : PySem.W.keepIn K (.ref fa) = true)
    (b : ∀ (kV doc pm : Value) (an : Option Addr) (cdv ct : Value) (us : List Value), us.length = pars.length → bindArgs (PySem.W.fnOf nm qn (defArgs d0) (defBody d0) (defScope d0) .none kV doc pm an cdv ct) ⟨us, []⟩ = pure (pars.zip us)) :
    ∃ f fd, Mt K C nm qn d0 f fd pars := ⟨fa, _, fun_mk l c k, (fun_mk l c k).binds b, a, i, k⟩
theorem tup_mk {a : Addr} {n : Nat} {z1 z2 : Str} {t1 t2 : Nat} (l : K.lookup a = some ⟨.type "tuple", od, .seq #[.str z1 t1, .str z2 t2] n, sl⟩) : ∀ H, SqT K H a [.str z1, .str z2] := fun H =>
  .inr ⟨_, _, _, l, rfl, rfl, by show 2 ≤ sizeLine; decide, .cons ⟨_, rfl⟩ (.cons ⟨_, rfl⟩ .nil)⟩
end
theorem dfs_mk {K : PySem.W.Frag} {h : Heap} {mg : Str → Option Value} (X : K.In h) (G : h.Ns mainGlobals mg) {fa T : Addr} {oc kV dc pm cd ct : Value} {od an od2 : Option Addr} {sl sl2 : Array (Option Value)} {n t1 t2 : Nat} {tc : Value}
    (a : PySem.W.nsIn K mainGlobals "is_shape" = some (some (.ref fa)))
    (l : K.lookup fa = some ⟨oc, od, .func (PySem.W.fnOf "is_shape" "is_shape" (defArgs s_is_shape) (defBody s_is_shape) (defScope s_is_shape) (.ref T) kV dc pm an cd ct), sl⟩) (c : PySem.W.codeIn K cd "is_shape" = true) (k : PySem.W.keepIn K (.ref fa) = true)
    (lT : K.lookup T = some ⟨tc, od2, .seq #[.int 4 t1, .str "" t2] n, sl2⟩) : ∃ f fd, DfS K mg f fd := by
  have F : FunD K "is_shape" "is_shape" (defArgs s_is_shape) (defBody s_is_shape) (defScope s_is_shape) [.int 4, .str ""] [] fa _ :=
    ⟨⟨oc, od, .ref T, kV, dc, pm, an, cd, ct, sl, rfl, l, c, .inr ⟨(by intro z; cases z), T, _, [.int 4 t1, .str "" t2], n, rfl, lT, rfl, .cons ⟨_, rfl⟩ (.cons ⟨_, rfl⟩ .nil)⟩, .inl rfl⟩, k⟩
  refine ⟨fa, _, F, PySem.W.mg_of X G a, ?_, ?_⟩
  · obtain ⟨ds, r, b⟩ := F.binds1 (ps := ["shape", "bases", "room", "outer"]) 4 2 (by intro z; cases z) rfl fun T kV doc pm an cdv ct us its hu hi => match us, hu, its, hi with | [_, _, _, _], _, [_, _], _ => ⟨_, rfl, rfl⟩
    cases r
    exact b
  · exact F.binds1 (ps := ["shape", "bases", "room", "outer"]) 2 0 (by intro z; cases z) rfl fun T kV doc pm an cdv ct us its hu hi => match us, hu, its, hi with | [_, _], _, [_, _], _ => ⟨_, rfl, rfl⟩
end NW
namespace NW
open PySem PySem.Spec PyProof.Rows L2
theorem all_ok {P : Program} {w : World} {K : PySem.W.Frag} {mg : Str → Option Value} {base : Heap} {fl C CQ CN CF : Addr} {fdl : FuncData} (D : Df K mg "law" s_law fl fdl ["_law_script"])
    (D_is_name : ∃ f fd, Df K mg "is_name" s_is_name f fd ["word"])
    (D_is_key : ∃ f fd, Df K mg "is_key" s_is_key f fd ["name", "table"])
    (D_is_table : ∃ f fd, Df K mg "is_table" s_is_table f fd ["table", "least", "most", "taken"])
    (D_is_choice : ∃ f fd, Df K mg "is_choice" s_is_choice f fd ["names", "table"])
    (D_is_fields : ∃ f fd, Df K mg "is_fields" s_is_fields f fd ["fields", "most", "bases"])
    (D_is_kind : ∃ f fd, Df K mg "is_kind" s_is_kind f fd ["worth", "faces", "bases"])
    (D_has_fields : ∃ f fd, Df K mg "has_fields" s_has_fields f fd ["holder", "fields"])
    (D_is_union : ∃ f fd, Df K mg "is_union" s_is_union f fd ["worth", "kinds"])
    (D_is_face : ∃ f fd, Df K mg "is_face" s_is_face f fd ["name", "fields", "kinds", "bases"])
    (D_check_names : ∃ f fd, Df K mg "check_names" s_check_names f fd ["kinds", "faces", "unions"])
    (D_check_schema : ∃ f fd, Df K mg "check_schema" s_check_schema f fd ["kinds", "faces", "unions", "root"])
    (D_Lbox : ∃ f fd, Df K mg "_law_box" s_Lbox f fd ["_law_script"])
    (D_Ldraw : ∃ f fd, Df K mg "_law_draw" s_Ldraw f fd ["_law_box_here", "_law_many"])
    (D_Lwords : ∃ f fd, Df K mg "_law_words" s_Lwords f fd ["_law_box_here", "_law_many"])
    (D_Lshape : ∃ f fd, Df K mg "_law_shape" s_Lshape f fd ["_law_box_here", "_law_bases_here", "_law_most"])
    (D_Lkind : ∃ f fd, Df K mg "_law_kind" s_Lkind f fd ["_law_box_here", "_law_faces", "_law_names", "_law_common", "_law_bases_here", "_law_most"])
    (D_Lschema : ∃ f fd, Df K mg "_law_schema" s_Lschema f fd ["_law_box_here", "_law_most", "_law_kinds"])
    (D_Lbases : ∃ f fd, Df K mg "_law_bases" s_Lbases f fd ["_law_schema_here"])
    (D_Lmade : ∃ f fd, Df K mg "_law_made" s_Lmade f fd ["_law_schema_here"])
    (D_Lsame : ∃ f fd, Df K mg "_law_same" s_Lsame f fd ["_law_one", "_law_other"])
    (D_target_of : ∃ f fd, Df K mg "target_of" s_target_of f fd ["shape"])
    (D_is_plain_int : ∃ f fd, Df K mg "is_plain_int" s_is_plain_int f fd ["number"])
    (D_is_rows : ∃ f fd, Df K mg "is_rows" s_is_rows f fd ["rows"])
    (D_has_members : ∃ f fd, Df K mg "has_members" s_has_members f fd ["schema", "base"])
    (D_is_part : ∃ f fd, Df K mg "is_part" s_is_part f fd ["schema", "part"])
    (D_is_statement : ∃ f fd, Df K mg "is_statement" s_is_statement f fd ["schema", "parts", "base", "statement"])
    (D_is_field : ∃ f fd, Df K mg "is_field" s_is_field f fd ["schema", "base", "statement"])
    (D_inner_rows : ∃ f fd, Df K mg "inner_rows" s_inner_rows f fd ["statement"])
    (D_inner_base : ∃ f fd, Df K mg "inner_base" s_inner_base f fd ["schema", "base", "statement"])
    (D_flags_of : ∃ f fd, Df K mg "flags_of" s_flags_of f fd ["statements"])
    (D_checked_statements : ∃ f fd, Df K mg "checked_statements" s_checked_statements f fd ["schema", "rows", "parts"])
    (D_is_part_table : ∃ f fd, Df K mg "is_part_table" s_is_part_table f fd ["parts"])
    (D_statements_below : ∃ f fd, Df K mg "statements_below" s_statements_below f fd ["schema", "parts", "before", "top"])
    (D_items_of : ∃ f fd, Df K mg "items_of" s_items_of f fd ["top"])
    (D_is_wrong : ∃ f fd, Df K mg "is_wrong" s_is_wrong f fd ["schema", "parts", "before", "item"])
    (D_level_of : ∃ f fd, Df K mg "level_of" s_level_of f fd ["place"])
    (D_uses_of_parts : ∃ f fd, Df K mg "uses_of_parts" s_uses_of_parts f fd ["parts", "found"])
    (D_comes_to : ∃ f fd, Df K mg "comes_to" s_comes_to f fd ["name", "uses"])
    (D_heights_of_parts : ∃ f fd, Df K mg "heights_of_parts" s_heights_of_parts f fd ["parts"])
    (D_height_of : ∃ f fd, Df K mg "height_of" s_height_of f fd ["rows", "heights"])
    (D_height_at : ∃ f fd, Df K mg "height_at" s_height_at f fd ["statement", "heights"])
    (D_Ltable : ∃ f fd, Df K mg "_law_table" s_Ltable f fd ["_law_schema_here", "_law_base"])
    (D_Ltarget : ∃ f fd, Df K mg "_law_target" s_Ltarget f fd ["_law_shape_here"])
    (D_Lplan : ∃ f fd, Df K mg "_law_plan" s_Lplan f fd ["_law_box_here", "_law_schema_here", "_law_room"])
    (D_Lheight : ∃ f fd, Df K mg "_law_height" s_Lheight f fd ["_law_rows_here", "_law_highs"])
    (D_Lrows : ∃ f fd, Df K mg "_law_rows" s_Lrows f fd ["_law_box_here", "_law_plan_here", "_law_base", "_law_high"])
    (D_Lkey : ∃ f fd, Df K mg "_law_key" s_Lkey f fd ["_law_box_here", "_law_plan_here", "_law_at"])
    (D_Lstatement : ∃ f fd, Df K mg "_law_statement" s_Lstatement f fd ["_law_box_here", "_law_plan_here", "_law_base", "_law_high"])
    (D_Lquestion : ∃ f fd, Df K mg "_law_question" s_Lquestion f fd ["_law_box_here", "_law_schema_here", "_law_room", "_law_high"])
    (D_Lasker : ∃ f fd, Df K mg "_law_asker" s_Lasker f fd ["_law_built", "_law_plan_here"])
    (D_Lflags : ∃ f fd, Df K mg "_law_flags" s_Lflags f fd ["_law_rows_here", "_law_parts"])
    (D_Lsteps : ∃ f fd, Df K mg "_law_steps" s_Lsteps f fd ["_law_schema_here", "_law_base", "_law_rows_here", "_law_block"])
    (D_Lall_steps : ∃ f fd, Df K mg "_law_all_steps" s_Lall_steps f fd ["_law_schema_here", "_law_rows_here", "_law_parts"])
    (D_Lmembers : ∃ f fd, Df K mg "_law_members" s_Lmembers f fd ["_law_schema_here", "_law_base"])
    (D_is_shape : ∃ f fd, DfS K mg f fd)
    (M_bases : ∃ f fd, Mt K C "bases" "Schema.bases" s_Schema_bases f fd ["self"])
    (M_shapes_at : ∃ f fd, Mt K C "shapes_at" "Schema.shapes_at" s_Schema_shapes_at f fd ["self", "base"])
    (M_fields : ∃ f fd, Mt K C "fields" "Schema.fields" s_Schema_fields f fd ["self", "base"])
    (M_shape_of : ∃ f fd, Mt K C "shape_of" "Schema.shape_of" s_Schema_shape_of f fd ["self", "base", "field"])
    (M_target : ∃ f fd, Mt K C "target" "Schema.target" s_Schema_target f fd ["self", "base", "field"])
    (M_base_at_CQ : ∃ f fd, Mt K CQ "base_at" "Question.base_at" s_Question_base_at f fd ["self", "place"])
    (M_parts_CQ : ∃ f fd, Mt K CQ "parts" "Question.parts" s_Question_parts f fd ["self"])
    (M_flags_CQ : ∃ f fd, Mt K CQ "flags" "Question.flags" s_Question_flags f fd ["self"])
    (IN_Schema : ∃ f fd, Fun K "__init__" "Schema.__init__" s_Schema_init f fd ∧ Binds K fd ["self", "kinds", "faces", "unions", "root"] [] ∧ Mk K C f)
    (IN_Question : ∃ f fd, Fun K "__init__" "Question.__init__" s_Question_init f fd ∧ Binds K fd ["self", "schema", "rows", "parts"] [] ∧ Mk K CQ f)
    (DU_sc : ∃ f fd, Fun K "__contains__" "Schema.__contains__" s_Schema_contains f fd ∧ Binds K fd ["self", "base"] [] ∧ InM K C f)
    (DU_se : ∃ f fd, Fun K "__eq__" "Schema.__eq__" s_Schema_eq f fd ∧ Binds K fd ["self", "other"] [] ∧ EqM K C f)
    (DU_qc : ∃ f fd, Fun K "__contains__" "Question.__contains__" s_Question_contains f fd ∧ Binds K fd ["self", "place"] [] ∧ InM K CQ f)
    (B_NoBase : ∃ f fd, Fun K "__init__" "NoBase.__init__" s_NoBase_init f fd ∧ Binds K fd ["self", "base"] [] ∧ NoB K mg CN f)
    (B_NoField : ∃ f fd, Fun K "__init__" "NoField.__init__" s_NoField_init f fd ∧ Binds K fd ["self", "base", "field"] [] ∧ NoF K mg CF f)
    (gR : ∃ t, mg "MOST_ROWS" = some (.int 6 t))
    (gP : ∃ t, mg "MOST_PARTS" = some (.int 4 t))
    (gL : ∃ t, mg "MOST_LEVELS" = some (.int 5 t))
    (gS : ∃ t, mg "MOST_STATEMENTS" = some (.int 40 t))
    (gF : ∃ t, mg "MOST_FLAGS" = some (.int 3 t))
    (gH : ∃ t, mg "MOST_HEIGHT" = some (.int 5 t))
    (T : Nms mg) (Cs : Cst K mg)
    (L_Schema : ClT K C)
    (L_Question : QT K CQ)
    (g_Schema : mg "Schema" = some (.ref C))
    (g_Question : mg "Question" = some (.ref CQ))
    (ci_C : ClsI K C)
    (hmax : mg "max" = none)
    (X_NoBase : XfC K CN)
    (X_NoField : XfC K CF)
    (f_NoBase_base : PySem.W.findIn K (.ref CN) "base" = some none)
    (f_NoField_base : PySem.W.findIn K (.ref CF) "base" = some none)
    (f_NoField_field : PySem.W.findIn K (.ref CF) "field" = some none) :
    FnOk P w K mg base CX0 18 fl fdl ["_law_script"] (spLaw K) := by
  obtain ⟨f_is_name, fd_is_name, D_is_name⟩ := D_is_name
  obtain ⟨f_is_key, fd_is_key, D_is_key⟩ := D_is_key
  obtain ⟨f_is_table, fd_is_table, D_is_table⟩ := D_is_table
  obtain ⟨f_is_choice, fd_is_choice, D_is_choice⟩ := D_is_choice
  obtain ⟨f_is_fields, fd_is_fields, D_is_fields⟩ := D_is_fields
  obtain ⟨f_is_kind, fd_is_kind, D_is_kind⟩ := D_is_kind
  obtain ⟨f_has_fields, fd_has_fields, D_has_fields⟩ := D_has_fields
  obtain ⟨f_is_union, fd_is_union, D_is_union⟩ := D_is_union
  obtain ⟨f_is_face, fd_is_face, D_is_face⟩ := D_is_face
  obtain ⟨f_check_names, fd_check_names, D_check_names⟩ := D_check_names
  obtain ⟨f_check_schema, fd_check_schema, D_check_schema⟩ := D_check_schema
  obtain ⟨f_Lbox, fd_Lbox, D_Lbox⟩ := D_Lbox
  obtain ⟨f_Ldraw, fd_Ldraw, D_Ldraw⟩ := D_Ldraw
  obtain ⟨f_Lwords, fd_Lwords, D_Lwords⟩ := D_Lwords
  obtain ⟨f_Lshape, fd_Lshape, D_Lshape⟩ := D_Lshape
  obtain ⟨f_Lkind, fd_Lkind, D_Lkind⟩ := D_Lkind
  obtain ⟨f_Lschema, fd_Lschema, D_Lschema⟩ := D_Lschema
  obtain ⟨f_Lbases, fd_Lbases, D_Lbases⟩ := D_Lbases
  obtain ⟨f_Lmade, fd_Lmade, D_Lmade⟩ := D_Lmade
  obtain ⟨f_Lsame, fd_Lsame, D_Lsame⟩ := D_Lsame
  obtain ⟨f_target_of, fd_target_of, D_target_of⟩ := D_target_of
  obtain ⟨f_is_plain_int, fd_is_plain_int, D_is_plain_int⟩ := D_is_plain_int
  obtain ⟨f_is_rows, fd_is_rows, D_is_rows⟩ := D_is_rows
  obtain ⟨f_has_members, fd_has_members, D_has_members⟩ := D_has_members
  obtain ⟨f_is_part, fd_is_part, D_is_part⟩ := D_is_part
  obtain ⟨f_is_statement, fd_is_statement, D_is_statement⟩ := D_is_statement
  obtain ⟨f_is_field, fd_is_field, D_is_field⟩ := D_is_field
  obtain ⟨f_inner_rows, fd_inner_rows, D_inner_rows⟩ := D_inner_rows
  obtain ⟨f_inner_base, fd_inner_base, D_inner_base⟩ := D_inner_base
  obtain ⟨f_flags_of, fd_flags_of, D_flags_of⟩ := D_flags_of
  obtain ⟨f_checked_statements, fd_checked_statements, D_checked_statements⟩ := D_checked_statements
  obtain ⟨f_is_part_table, fd_is_part_table, D_is_part_table⟩ := D_is_part_table
  obtain ⟨f_statements_below, fd_statements_below, D_statements_below⟩ := D_statements_below
  obtain ⟨f_items_of, fd_items_of, D_items_of⟩ := D_items_of
  obtain ⟨f_is_wrong, fd_is_wrong, D_is_wrong⟩ := D_is_wrong
  obtain ⟨f_level_of, fd_level_of, D_level_of⟩ := D_level_of
  obtain ⟨f_uses_of_parts, fd_uses_of_parts, D_uses_of_parts⟩ := D_uses_of_parts
  obtain ⟨f_comes_to, fd_comes_to, D_comes_to⟩ := D_comes_to
  obtain ⟨f_heights_of_parts, fd_heights_of_parts, D_heights_of_parts⟩ := D_heights_of_parts
  obtain ⟨f_height_of, fd_height_of, D_height_of⟩ := D_height_of
  obtain ⟨f_height_at, fd_height_at, D_height_at⟩ := D_height_at
  obtain ⟨f_Ltable, fd_Ltable, D_Ltable⟩ := D_Ltable
  obtain ⟨f_Ltarget, fd_Ltarget, D_Ltarget⟩ := D_Ltarget
  obtain ⟨f_Lplan, fd_Lplan, D_Lplan⟩ := D_Lplan
  obtain ⟨f_Lheight, fd_Lheight, D_Lheight⟩ := D_Lheight
  obtain ⟨f_Lrows, fd_Lrows, D_Lrows⟩ := D_Lrows
  obtain ⟨f_Lkey, fd_Lkey, D_Lkey⟩ := D_Lkey
  obtain ⟨f_Lstatement, fd_Lstatement, D_Lstatement⟩ := D_Lstatement
  obtain ⟨f_Lquestion, fd_Lquestion, D_Lquestion⟩ := D_Lquestion
  obtain ⟨f_Lasker, fd_Lasker, D_Lasker⟩ := D_Lasker
  obtain ⟨f_Lflags, fd_Lflags, D_Lflags⟩ := D_Lflags
  obtain ⟨f_Lsteps, fd_Lsteps, D_Lsteps⟩ := D_Lsteps
  obtain ⟨f_Lall_steps, fd_Lall_steps, D_Lall_steps⟩ := D_Lall_steps
  obtain ⟨f_Lmembers, fd_Lmembers, D_Lmembers⟩ := D_Lmembers
  obtain ⟨f_is_shape, fd_is_shape, D_is_shape⟩ := D_is_shape
  obtain ⟨f_bases, fd_bases, M_bases⟩ := M_bases
  obtain ⟨f_shapes_at, fd_shapes_at, M_shapes_at⟩ := M_shapes_at
  obtain ⟨f_fields, fd_fields, M_fields⟩ := M_fields
  obtain ⟨f_shape_of, fd_shape_of, M_shape_of⟩ := M_shape_of
  obtain ⟨f_target, fd_target, M_target⟩ := M_target
  obtain ⟨f_base_at_CQ, fd_base_at_CQ, M_base_at_CQ⟩ := M_base_at_CQ
  obtain ⟨f_parts_CQ, fd_parts_CQ, M_parts_CQ⟩ := M_parts_CQ
  obtain ⟨f_flags_CQ, fd_flags_CQ, M_flags_CQ⟩ := M_flags_CQ
  obtain ⟨fI_Schema, fdI_Schema, F_Schema, b_Schema, K_Schema⟩ := IN_Schema
  obtain ⟨fI_Question, fdI_Question, F_Question, b_Question, K_Question⟩ := IN_Question
  obtain ⟨f_sc, fd_sc, F_sc, b_sc, m_sc⟩ := DU_sc
  obtain ⟨f_se, fd_se, F_se, b_se, m_se⟩ := DU_se
  obtain ⟨f_qc, fd_qc, F_qc, b_qc, m_qc⟩ := DU_qc
  obtain ⟨fNoBase, fdNoBase, FNoBase, bNoBase, NNoBase⟩ := B_NoBase
  obtain ⟨fNoField, fdNoField, FNoField, bNoField, NNoField⟩ := B_NoField
  obtain ⟨t_gR, gR⟩ := gR
  obtain ⟨t_gP, gP⟩ := gP
  obtain ⟨t_gL, gL⟩ := gL
  obtain ⟨t_gS, gS⟩ := gS
  obtain ⟨t_gF, gF⟩ := gF
  obtain ⟨t_gH, gH⟩ := gH
  have G_is_table := ok_is_table (P := P) (w := w) (base := base) D_is_table D_is_name T Cs
  have G_is_key := ok_is_key (P := P) (w := w) (base := base) D_is_key T
  have G_is_choice := ok_is_choice (P := P) (w := w) (base := base) D_is_choice D_is_key T
  have G_is_fields := ok_is_fields D_is_fields D_is_table D_is_shape T Cs G_is_table
  have G_is_kind := ok_is_kind D_is_kind D_is_choice D_is_fields T Cs G_is_choice G_is_fields
  have G_is_union := ok_is_union D_is_union D_is_choice T Cs G_is_choice
  have G_is_face := ok_is_face D_is_face D_is_fields D_has_fields T Cs G_is_fields
  have G_check_names := ok_check_names D_check_names D_is_table T Cs G_is_table
  have G_check_schema := ok_check_schema D_check_schema D_check_names D_is_kind D_is_face D_is_union D_is_key T Cs G_check_names G_is_kind G_is_face G_is_union G_is_key
  have G_init := ok_init F_Schema D_check_schema T L_Schema G_check_schema
  have G_bases := ok_bases (P := P) (w := w) (base := base) M_bases.F L_Schema Cs
  have G_contains := ok_contains F_sc M_bases D_is_key T L_Schema G_bases G_is_key
  have G_Ldraw := ok_Ldraw (P := P) (w := w) (base := base) D_Ldraw T
  have G_Lwords := ok_Lwords (P := P) (w := w) (base := base) D_Lwords D_Ldraw T
  have G_Lshape := ok_Lshape (P := P) (w := w) (base := base) D_Lshape D_Ldraw T
  have G_Lkind := ok_Lkind (P := P) (w := w) (base := base) D_Lkind D_Ldraw D_Lshape T
  have G_Lschema := ok_Lschema D_Lschema D_Ldraw D_Lshape D_Lwords D_Lkind T G_Ldraw G_Lshape G_Lwords G_Lkind
  have G_NB := ok_NB (P := P) (w := w) (mg := mg) (base := base) FNoBase NNoBase
  have G_NF := ok_NF (P := P) (w := w) (mg := mg) (base := base) FNoField NNoField
  have G_shapes_at := ok_shapes_at M_shapes_at.F m_sc b_sc G_contains NNoBase bNoBase G_NB T L_Schema
  have G_fields := ok_fields M_fields.F M_shapes_at G_shapes_at T L_Schema
  have G_shape_of := ok_shape_of M_shape_of.F M_shapes_at G_shapes_at D_is_key G_is_key NNoField bNoField G_NF T L_Schema
  have G_target := ok_target M_target.F M_shape_of G_shape_of D_target_of (ok_target_of D_target_of T 4) T L_Schema
  have G_is_name := ok_is_name (P := P) (w := w) (base := base) D_is_name T Cs
  have G_is_rows := ok_is_rows (P := P) (w := w) (base := base) D_is_rows T gR
  have G_inner_rows := ok_inner_rows (P := P) (w := w) (base := base) D_inner_rows T
  have G_items_of := ok_items_of (P := P) (w := w) (base := base) D_items_of T
  have G_level_of := ok_level_of (P := P) (w := w) (base := base) D_level_of T
  have G_inner_base := ok_inner_base D_inner_base M_target G_target T L_Schema
  have G_has_members := ok_has_members D_has_members m_sc b_sc G_contains T Cs
  have G_is_field := ok_is_field (t := 0) D_is_field D_is_key G_is_key D_is_name G_is_name D_is_rows G_is_rows M_fields G_fields M_target G_target T Cs L_Schema
  have G_is_statement := ok_is_statement D_is_statement D_is_key G_is_key D_is_name G_is_name D_is_rows G_is_rows D_is_field G_is_field D_has_members G_has_members T
  have G_flags_of := ok_flags_of (P := P) (w := w) (base := base) D_flags_of T
  have G_height_of := (ok_heights (P := P) (w := w) (base := base) D_height_of D_height_at D_inner_rows T hmax 5).1
  have G_is_part_table := ok_is_part_table (P := P) (w := w) (base := base) D_is_part_table D_is_name gP T Cs
  have G_is_part := ok_is_part D_is_part D_has_members G_has_members D_is_rows G_is_rows T
  have G_heights_of_parts := ok_heights_of_parts D_heights_of_parts D_height_of G_height_of T
  have G_uses_of_parts := ok_uses (P := P) (w := w) (base := base) D_uses_of_parts T
  have G_comes_to := ok_comes_to (P := P) (w := w) (base := base) D_comes_to T
  have G_is_wrong := ok_is_wrong D_is_wrong D_level_of G_level_of D_is_statement G_is_statement D_flags_of G_flags_of gL gS gF T
  have G_below := ok_below D_statements_below D_items_of G_items_of D_is_wrong G_is_wrong D_inner_base G_inner_base D_inner_rows G_inner_rows T
  have G_checked := ok_checked D_checked_statements D_is_rows G_is_rows D_is_part_table G_is_part_table D_statements_below G_below D_is_part G_is_part D_comes_to G_comes_to D_uses_of_parts G_uses_of_parts D_height_of G_height_of D_heights_of_parts G_heights_of_parts gH T L_Schema
  have G_q_init := ok_q_init F_Question D_checked_statements G_checked T L_Question
  have G_drawn := ok_drawn (P := P) (w := w) (base := base) D_Lstatement D_Ldraw D_Ltable D_Lbases D_Lmembers D_Lkey D_Ltarget D_Lrows T
  have G_Lplan := ok_Lplan D_Lplan D_Ldraw D_Lwords D_Lbases D_Lrows (G_drawn 2).1 D_Lheight (ok_Lheight (P := P) (w := w) (base := base) D_Lheight T hmax 2) T
  have G_Lquestion := ok_Lquestion D_Lquestion D_Lplan G_Lplan D_Lrows (G_drawn 5).1 T
  have G_Lasker := ok_Lasker D_Lasker T K_Question g_Question b_Question G_q_init
  have G_qc := ok_q_contains (P := P) (w := w) (base := base) F_qc D_is_plain_int T L_Question
  have G_base_at := ok_q_base_at M_base_at_CQ.F m_qc b_qc G_qc L_Question
  have G_parts := ok_q_parts (P := P) (w := w) (base := base) M_parts_CQ.F T L_Question
  have G_flags := ok_q_flags M_flags_CQ.F D_flags_of G_flags_of T L_Question
  have G_Lsteps := ok_Lsteps (P := P) (w := w) (base := base) D_Lsteps D_Ltarget D_Ltable T 6
  have G_Lall_steps := ok_Lall_steps D_Lall_steps D_Lsteps G_Lsteps T
  have G_eq := ok_eq (P := P) (w := w) (base := base) F_se T L_Schema g_Schema ci_C
  exact ok_law D D_Lbox (ok_Lbox D_Lbox T) D_Lschema G_Lschema D_Lquestion G_Lquestion D_Lmade (ok_Lmade D_Lmade T K_Schema g_Schema b_Schema G_init) D_Lasker G_Lasker D_Lall_steps G_Lall_steps D_Lsame (ok_Lsame D_Lsame T 12) D_Lflags (ok_Lflags D_Lflags T 6) M_base_at_CQ G_base_at M_parts_CQ G_parts M_flags_CQ G_flags m_se b_se G_eq L_Question T
end NW
namespace NW
open PySem PySem.Spec PyProof.Rows L2
structure ClsAll (K : PySem.W.Frag) (mg : Str → Option Value) (C CQ CN CF : Addr) : Prop where
  m0 : ∃ f fd, Mt K C "bases" "Schema.bases" s_Schema_bases f fd ["self"]
  m1 : ∃ f fd, Mt K C "shapes_at" "Schema.shapes_at" s_Schema_shapes_at f fd ["self", "base"]
  m2 : ∃ f fd, Mt K C "fields" "Schema.fields" s_Schema_fields f fd ["self", "base"]
  m3 : ∃ f fd, Mt K C "shape_of" "Schema.shape_of" s_Schema_shape_of f fd ["self", "base", "field"]
  m4 : ∃ f fd, Mt K C "target" "Schema.target" s_Schema_target f fd ["self", "base", "field"]
  m5 : ∃ f fd, Mt K CQ "base_at" "Question.base_at" s_Question_base_at f fd ["self", "place"]
  m6 : ∃ f fd, Mt K CQ "parts" "Question.parts" s_Question_parts f fd ["self"]
  m7 : ∃ f fd, Mt K CQ "flags" "Question.flags" s_Question_flags f fd ["self"]
  IN_Schema : ∃ f fd, L2.Fun K "__init__" "Schema.__init__" s_Schema_init f fd ∧ L2.Binds K fd ["self", "kinds", "faces", "unions", "root"] [] ∧ L2.Mk K C f
  IN_Question : ∃ f fd, L2.Fun K "__init__" "Question.__init__" s_Question_init f fd ∧ L2.Binds K fd ["self", "schema", "rows", "parts"] [] ∧ L2.Mk K CQ f
  DU_sc : ∃ f fd, L2.Fun K "__contains__" "Schema.__contains__" s_Schema_contains f fd ∧ L2.Binds K fd ["self", "base"] [] ∧ InM K C f
  DU_se : ∃ f fd, L2.Fun K "__eq__" "Schema.__eq__" s_Schema_eq f fd ∧ L2.Binds K fd ["self", "other"] [] ∧ EqM K C f
  DU_qc : ∃ f fd, L2.Fun K "__contains__" "Question.__contains__" s_Question_contains f fd ∧ L2.Binds K fd ["self", "place"] [] ∧ InM K CQ f
  B_NoBase : ∃ f fd, L2.Fun K "__init__" "NoBase.__init__" s_NoBase_init f fd ∧ L2.Binds K fd ["self", "base"] [] ∧ NoB K mg CN f
  B_NoField : ∃ f fd, L2.Fun K "__init__" "NoField.__init__" s_NoField_init f fd ∧ L2.Binds K fd ["self", "base", "field"] [] ∧ NoF K mg CF f
  L_Schema : ClT K C
  L_Question : QT K CQ
  ci_C : ClsI K C
  X_NoBase : L2.XfC K CN
  X_NoField : L2.XfC K CF
  f_NoBase_base : PySem.W.findIn K (.ref CN) "base" = some none
  f_NoField_base : PySem.W.findIn K (.ref CF) "base" = some none
  f_NoField_field : PySem.W.findIn K (.ref CF) "field" = some none
theorem cst_mk {K : PySem.W.Frag} {h : Heap} {mg : Str → Option Value} (X : K.In h) (G : h.Ns mainGlobals mg) {v0 v1 v4 v5 v6 v7 v8 v9 : Value} {a2 a3 : Addr} {p2 p3 : Option Addr} {s2 s3 : Array (Option Value)} {n2 n3 : Nat} {t2 u2 t3 u3 : Nat}
    (c0 : PySem.W.nsIn K mainGlobals "LETTERS" = some (some v0)) (d0 : ∃ t, v0 = .str LET t) (c1 : PySem.W.nsIn K mainGlobals "LONGEST" = some (some v1)) (d1 : ∃ t, v1 = .int 8 t)
    (c2 : PySem.W.nsIn K mainGlobals "LEAVES" = some (some (.ref a2))) (l2 : K.lookup a2 = some ⟨.type "tuple", p2, .seq #[.str "number" t2, .str "text" u2] n2, s2⟩)
    (c3 : PySem.W.nsIn K mainGlobals "WRAPPERS" = some (some (.ref a3))) (l3 : K.lookup a3 = some ⟨.type "tuple", p3, .seq #[.str "list" t3, .str "sure" u3] n3, s3⟩)
    (c4 : PySem.W.nsIn K mainGlobals "MOST_KINDS" = some (some v4)) (d4 : ∃ t, v4 = .int 6 t) (c5 : PySem.W.nsIn K mainGlobals "MOST_FACES" = some (some v5)) (d5 : ∃ t, v5 = .int 3 t)
    (c6 : PySem.W.nsIn K mainGlobals "MOST_UNIONS" = some (some v6)) (d6 : ∃ t, v6 = .int 3 t) (c7 : PySem.W.nsIn K mainGlobals "MOST_KIND_FIELDS" = some (some v7)) (d7 : ∃ t, v7 = .int 5 t)
    (c8 : PySem.W.nsIn K mainGlobals "MOST_FACE_FIELDS" = some (some v8)) (d8 : ∃ t, v8 = .int 4 t) (c9 : PySem.W.nsIn K mainGlobals "MOST_UNION_KINDS" = some (some v9)) (d9 : ∃ t, v9 = .int 4 t) : Cst K mg := by
  obtain ⟨_, rfl⟩ := d0
  obtain ⟨_, rfl⟩ := d1
  obtain ⟨_, rfl⟩ := d4
  obtain ⟨_, rfl⟩ := d5
  obtain ⟨_, rfl⟩ := d6
  obtain ⟨_, rfl⟩ := d7
  obtain ⟨_, rfl⟩ := d8
  obtain ⟨_, rfl⟩ := d9
  exact ⟨⟨_, PySem.W.mg_of X G c0⟩, ⟨_, PySem.W.mg_of X G c1⟩, ⟨_, PySem.W.mg_of X G c2, tup_mk l2⟩, ⟨_, PySem.W.mg_of X G c3, tup_mk l3⟩, ⟨_, PySem.W.mg_of X G c4⟩, ⟨_, PySem.W.mg_of X G c5⟩, ⟨_, PySem.W.mg_of X G c6⟩, ⟨_, PySem.W.mg_of X G c7⟩, ⟨_, PySem.W.mg_of X G c8⟩, ⟨_, PySem.W.mg_of X G c9⟩⟩
theorem int_mk_gR {K : PySem.W.Frag} {h : Heap} {mg : Str → Option Value} (X : K.In h) (G : h.Ns mainGlobals mg) {v : Value} (c : PySem.W.nsIn K mainGlobals "MOST_ROWS" = some (some v)) (d : ∃ t, v = .int 6 t) : ∃ t, mg "MOST_ROWS" = some (.int 6 t) := by
  obtain ⟨t, rfl⟩ := d
  exact ⟨t, PySem.W.mg_of X G c⟩
theorem int_mk_gP {K : PySem.W.Frag} {h : Heap} {mg : Str → Option Value} (X : K.In h) (G : h.Ns mainGlobals mg) {v : Value} (c : PySem.W.nsIn K mainGlobals "MOST_PARTS" = some (some v)) (d : ∃ t, v = .int 4 t) : ∃ t, mg "MOST_PARTS" = some (.int 4 t) := by
  obtain ⟨t, rfl⟩ := d
  exact ⟨t, PySem.W.mg_of X G c⟩
theorem int_mk_gL {K : PySem.W.Frag} {h : Heap} {mg : Str → Option Value} (X : K.In h) (G : h.Ns mainGlobals mg) {v : Value} (c : PySem.W.nsIn K mainGlobals "MOST_LEVELS" = some (some v)) (d : ∃ t, v = .int 5 t) : ∃ t, mg "MOST_LEVELS" = some (.int 5 t) := by
  obtain ⟨t, rfl⟩ := d
  exact ⟨t, PySem.W.mg_of X G c⟩
theorem int_mk_gS {K : PySem.W.Frag} {h : Heap} {mg : Str → Option Value} (X : K.In h) (G : h.Ns mainGlobals mg) {v : Value} (c : PySem.W.nsIn K mainGlobals "MOST_STATEMENTS" = some (some v)) (d : ∃ t, v = .int 40 t) : ∃ t, mg "MOST_STATEMENTS" = some (.int 40 t) := by
  obtain ⟨t, rfl⟩ := d
  exact ⟨t, PySem.W.mg_of X G c⟩
theorem int_mk_gF {K : PySem.W.Frag} {h : Heap} {mg : Str → Option Value} (X : K.In h) (G : h.Ns mainGlobals mg) {v : Value} (c : PySem.W.nsIn K mainGlobals "MOST_FLAGS" = some (some v)) (d : ∃ t, v = .int 3 t) : ∃ t, mg "MOST_FLAGS" = some (.int 3 t) := by
  obtain ⟨t, rfl⟩ := d
  exact ⟨t, PySem.W.mg_of X G c⟩
theorem int_mk_gH {K : PySem.W.Frag} {h : Heap} {mg : Str → Option Value} (X : K.In h) (G : h.Ns mainGlobals mg) {v : Value} (c : PySem.W.nsIn K mainGlobals "MOST_HEIGHT" = some (some v)) (d : ∃ t, v = .int 5 t) : ∃ t, mg "MOST_HEIGHT" = some (.int 5 t) := by
  obtain ⟨t, rfl⟩ := d
  exact ⟨t, PySem.W.mg_of X G c⟩
theorem cls_mk {K : PySem.W.Frag} {h : Heap} {mg : Str → Option Value} (X : K.In h) (G : h.Ns mainGlobals mg) {C CQ CN CF : Addr}
    (s_Schema : PySem.W.nsIn K mainGlobals "Schema" = some (some (.ref C)))
    (s_Question : PySem.W.nsIn K mainGlobals "Question" = some (some (.ref CQ)))
    (s_NoBase : PySem.W.nsIn K mainGlobals "NoBase" = some (some (.ref CN)))
    (s_NoField : PySem.W.nsIn K mainGlobals "NoField" = some (some (.ref CF)))
    (m : mg "Schema" = some (.ref C) → mg "Question" = some (.ref CQ) → mg "NoBase" = some (.ref CN) → mg "NoField" = some (.ref CF) → ClsAll K mg C CQ CN CF) : ∃ C CQ CN CF, mg "Schema" = some (.ref C) ∧ mg "Question" = some (.ref CQ) ∧ mg "NoBase" = some (.ref CN) ∧ mg "NoField" = some (.ref CF) ∧ ClsAll K mg C CQ CN CF :=
  ⟨C, CQ, CN, CF, PySem.W.mg_of X G s_Schema, PySem.W.mg_of X G s_Question, PySem.W.mg_of X G s_NoBase, PySem.W.mg_of X G s_NoField, m (PySem.W.mg_of X G s_Schema) (PySem.W.mg_of X G s_Question) (PySem.W.mg_of X G s_NoBase) (PySem.W.mg_of X G s_NoField)⟩
theorem init_mk_Schema {K : PySem.W.Frag} {C fa : Addr} {oc kV dc pm cd ct : Value} {od an : Option Addr} {sl : Array (Option Value)} (i2 : PySem.W.findIn K (.ref C) "__init__" = some (some (.ref fa)))
    (l : K.lookup fa = some ⟨oc, od, .func (PySem.W.fnOf "__init__" "Schema.__init__" (defArgs s_Schema_init) (defBody s_Schema_init) (defScope s_Schema_init) .none kV dc pm an cd ct), sl⟩) (c : PySem.W.codeIn K cd "Schema.__init__" = true) (k : PySem.W.keepIn K (.ref fa) = true)
    (i1 : PySem.W.makesIn K C = true) (i3 : PySem.W.isFn K (.ref fa) = true) (i4 : PySem.W.keepIn K (.ref C) = true) : ∃ f fd, L2.Fun K "__init__" "Schema.__init__" s_Schema_init f fd ∧ L2.Binds K fd ["self", "kinds", "faces", "unions", "root"] [] ∧ L2.Mk K C f :=
  ⟨fa, _, fun_mk l c k, (fun_mk l c k).binds (fun _ _ _ _ _ _ us hl => match us, hl with | [_, _, _, _, _], _ => rfl), ⟨i1, i2, i3, i4⟩⟩
theorem init_mk_Question {K : PySem.W.Frag} {C fa : Addr} {oc kV dc pm cd ct : Value} {od an : Option Addr} {sl : Array (Option Value)} (i2 : PySem.W.findIn K (.ref C) "__init__" = some (some (.ref fa)))
    (l : K.lookup fa = some ⟨oc, od, .func (PySem.W.fnOf "__init__" "Question.__init__" (defArgs s_Question_init) (defBody s_Question_init) (defScope s_Question_init) .none kV dc pm an cd ct), sl⟩) (c : PySem.W.codeIn K cd "Question.__init__" = true) (k : PySem.W.keepIn K (.ref fa) = true)
    (i1 : PySem.W.makesIn K C = true) (i3 : PySem.W.isFn K (.ref fa) = true) (i4 : PySem.W.keepIn K (.ref C) = true) : ∃ f fd, L2.Fun K "__init__" "Question.__init__" s_Question_init f fd ∧ L2.Binds K fd ["self", "schema", "rows", "parts"] [] ∧ L2.Mk K C f :=
  ⟨fa, _, fun_mk l c k, (fun_mk l c k).binds (fun _ _ _ _ _ _ us hl => match us, hl with | [_, _, _, _], _ => rfl), ⟨i1, i2, i3, i4⟩⟩
theorem dund_mk_sc {K : PySem.W.Frag} {C fa : Addr} {oc kV dc pm cd ct : Value} {od an : Option Addr} {sl : Array (Option Value)} (i1 : PySem.W.findIn K (.ref C) "__contains__" = some (some (.ref fa)))
    (l : K.lookup fa = some ⟨oc, od, .func (PySem.W.fnOf "__contains__" "Schema.__contains__" (defArgs s_Schema_contains) (defBody s_Schema_contains) (defScope s_Schema_contains) .none kV dc pm an cd ct), sl⟩) (c : PySem.W.codeIn K cd "Schema.__contains__" = true) (k : PySem.W.keepIn K (.ref fa) = true)
    (i2 : PySem.W.isFn K (.ref fa) = true) : ∃ f fd, L2.Fun K "__contains__" "Schema.__contains__" s_Schema_contains f fd ∧ L2.Binds K fd ["self", "base"] [] ∧ InM K C f :=
  ⟨fa, _, fun_mk l c k, (fun_mk l c k).binds (fun _ _ _ _ _ _ us hl => match us, hl with | [_, _], _ => rfl), ⟨i1, i2⟩⟩
theorem dund_mk_se {K : PySem.W.Frag} {C fa : Addr} {oc kV dc pm cd ct : Value} {od an : Option Addr} {sl : Array (Option Value)} (i1 : PySem.W.findIn K (.ref C) "__eq__" = some (some (.ref fa)))
    (l : K.lookup fa = some ⟨oc, od, .func (PySem.W.fnOf "__eq__" "Schema.__eq__" (defArgs s_Schema_eq) (defBody s_Schema_eq) (defScope s_Schema_eq) .none kV dc pm an cd ct), sl⟩) (c : PySem.W.codeIn K cd "Schema.__eq__" = true) (k : PySem.W.keepIn K (.ref fa) = true)
    (i2 : PySem.W.isFn K (.ref fa) = true) : ∃ f fd, L2.Fun K "__eq__" "Schema.__eq__" s_Schema_eq f fd ∧ L2.Binds K fd ["self", "other"] [] ∧ EqM K C f :=
  ⟨fa, _, fun_mk l c k, (fun_mk l c k).binds (fun _ _ _ _ _ _ us hl => match us, hl with | [_, _], _ => rfl), ⟨i1, i2⟩⟩
theorem dund_mk_qc {K : PySem.W.Frag} {C fa : Addr} {oc kV dc pm cd ct : Value} {od an : Option Addr} {sl : Array (Option Value)} (i1 : PySem.W.findIn K (.ref C) "__contains__" = some (some (.ref fa)))
    (l : K.lookup fa = some ⟨oc, od, .func (PySem.W.fnOf "__contains__" "Question.__contains__" (defArgs s_Question_contains) (defBody s_Question_contains) (defScope s_Question_contains) .none kV dc pm an cd ct), sl⟩) (c : PySem.W.codeIn K cd "Question.__contains__" = true) (k : PySem.W.keepIn K (.ref fa) = true)
    (i2 : PySem.W.isFn K (.ref fa) = true) : ∃ f fd, L2.Fun K "__contains__" "Question.__contains__" s_Question_contains f fd ∧ L2.Binds K fd ["self", "place"] [] ∧ InM K C f :=
  ⟨fa, _, fun_mk l c k, (fun_mk l c k).binds (fun _ _ _ _ _ _ us hl => match us, hl with | [_, _], _ => rfl), ⟨i1, i2⟩⟩
theorem NoBase_mk {K : PySem.W.Frag} {mg : Str → Option Value} {C fa : Addr} {oc kV dc pm cd ct : Value} {od an : Option Addr} {sl : Array (Option Value)} {nm q : Str} {N : Addr} {bs : List Value} {bm : List Value} {sn : List Str} {sub : List Value} {ab : Bool} {col : Option Bool} {dd : Option Addr} {m0 m1 m2 m3 m5 : Option Value}
    (i1 : PySem.W.findIn K (.ref C) "__init__" = some (some (.ref fa)))
    (l : K.lookup fa = some ⟨oc, od, .func (PySem.W.fnOf "__init__" "NoBase.__init__" (defArgs s_NoBase_init) (defBody s_NoBase_init) (defScope s_NoBase_init) .none kV dc pm an cd ct), sl⟩) (c : PySem.W.codeIn K cd "NoBase.__init__" = true) (k : PySem.W.keepIn K (.ref fa) = true)
    (o1 : K.lookup C = some (excClassObj nm q C N bs bm true sn sub ab col dd m0 m1 m2 m3 m5 "ValueError.__new__")) (o2 : PySem.HandSPX.refsVE bm = true) (o3 : PySem.W.findIn K (.ref C) "__setattr__" = some (some (.builtin "object.__setattr__")))
    (o4 : PySem.W.subIn K (.ref C) (.type "BaseException") = some true) (o5 : PySem.W.typeIn K (.ref C) = some (.type "type")) (o6 : PySem.W.keepIn K (.ref C) = true) (i2 : PySem.W.typeIn K (.ref fa) = some (.type "function"))
    (g : mg "NoBase" = some (.ref C)) (no0 : PySem.W.findIn K (.ref C) "base" = some none) : ∃ f fd, L2.Fun K "__init__" "NoBase.__init__" s_NoBase_init f fd ∧ L2.Binds K fd ["self", "base"] [] ∧ NoB K mg C f :=
  ⟨fa, _, fun_mk l c k, (fun_mk l c k).binds (fun _ _ _ _ _ _ us hl => match us, hl with | [_, _], _ => rfl), ⟨⟨⟨_, _, _, _, _, _, _, _, _, _, _, _, _, _, _, o1, o2⟩, o3, o4, o5, o6⟩, i1, i2, g, no0⟩⟩
theorem NoField_mk {K : PySem.W.Frag} {mg : Str → Option Value} {C fa : Addr} {oc kV dc pm cd ct : Value} {od an : Option Addr} {sl : Array (Option Value)} {nm q : Str} {N : Addr} {bs : List Value} {bm : List Value} {sn : List Str} {sub : List Value} {ab : Bool} {col : Option Bool} {dd : Option Addr} {m0 m1 m2 m3 m5 : Option Value}
    (i1 : PySem.W.findIn K (.ref C) "__init__" = some (some (.ref fa)))
    (l : K.lookup fa = some ⟨oc, od, .func (PySem.W.fnOf "__init__" "NoField.__init__" (defArgs s_NoField_init) (defBody s_NoField_init) (defScope s_NoField_init) .none kV dc pm an cd ct), sl⟩) (c : PySem.W.codeIn K cd "NoField.__init__" = true) (k : PySem.W.keepIn K (.ref fa) = true)
    (o1 : K.lookup C = some (excClassObj nm q C N bs bm true sn sub ab col dd m0 m1 m2 m3 m5 "ValueError.__new__")) (o2 : PySem.HandSPX.refsVE bm = true) (o3 : PySem.W.findIn K (.ref C) "__setattr__" = some (some (.builtin "object.__setattr__")))
    (o4 : PySem.W.subIn K (.ref C) (.type "BaseException") = some true) (o5 : PySem.W.typeIn K (.ref C) = some (.type "type")) (o6 : PySem.W.keepIn K (.ref C) = true) (i2 : PySem.W.typeIn K (.ref fa) = some (.type "function"))
    (g : mg "NoField" = some (.ref C)) (no0 : PySem.W.findIn K (.ref C) "base" = some none) (no1 : PySem.W.findIn K (.ref C) "field" = some none) : ∃ f fd, L2.Fun K "__init__" "NoField.__init__" s_NoField_init f fd ∧ L2.Binds K fd ["self", "base", "field"] [] ∧ NoF K mg C f :=
  ⟨fa, _, fun_mk l c k, (fun_mk l c k).binds (fun _ _ _ _ _ _ us hl => match us, hl with | [_, _, _], _ => rfl), ⟨⟨⟨_, _, _, _, _, _, _, _, _, _, _, _, _, _, _, o1, o2⟩, o3, o4, o5, o6⟩, i1, i2, g, no0, no1⟩⟩
theorem law_mk {K : PySem.W.Frag} {h : Heap} {mg : Str → Option Value} (X : K.In h) (G : h.Ns mainGlobals mg) {fa : Addr} {oc kV dc pm cd ct : Value} {od an : Option Addr} {sl : Array (Option Value)} (a : PySem.W.nsIn K mainGlobals "law" = some (some (.ref fa)))
    (l : K.lookup fa = some ⟨oc, od, .func (PySem.W.fnOf "law" "law" (defArgs s_law) (defBody s_law) (defScope s_law) .none kV dc pm an cd ct), sl⟩) (c : PySem.W.codeIn K cd "law" = true) (k : PySem.W.keepIn K (.ref fa) = true) :
    ∃ fa fd, Df K mg "law" s_law fa fd ["_law_script"] ∧ ∀ (s : Shared) (v : Value), BindsTo s fd ⟨[v], []⟩ [("_law_script", v)] :=
  ⟨fa, _, ⟨fun_mk l c k, (fun_mk l c k).binds (fun _ _ _ _ _ _ us hl => match us, hl with | [_], _ => rfl), PySem.W.mg_of X G a⟩, fun s v => .of_eq rfl⟩
theorem clsAll_mk {K : PySem.W.Frag} {mg : Str → Option Value} {C CQ CN CF : Addr} (m0 : ∃ f fd, Mt K C "bases" "Schema.bases" s_Schema_bases f fd ["self"])
    (m1 : ∃ f fd, Mt K C "shapes_at" "Schema.shapes_at" s_Schema_shapes_at f fd ["self", "base"])
    (m2 : ∃ f fd, Mt K C "fields" "Schema.fields" s_Schema_fields f fd ["self", "base"])
    (m3 : ∃ f fd, Mt K C "shape_of" "Schema.shape_of" s_Schema_shape_of f fd ["self", "base", "field"])
    (m4 : ∃ f fd, Mt K C "target" "Schema.target" s_Schema_target f fd ["self", "base", "field"])
    (m5 : ∃ f fd, Mt K CQ "base_at" "Question.base_at" s_Question_base_at f fd ["self", "place"])
    (m6 : ∃ f fd, Mt K CQ "parts" "Question.parts" s_Question_parts f fd ["self"])
    (m7 : ∃ f fd, Mt K CQ "flags" "Question.flags" s_Question_flags f fd ["self"])
    (IN_Schema : ∃ f fd, L2.Fun K "__init__" "Schema.__init__" s_Schema_init f fd ∧ L2.Binds K fd ["self", "kinds", "faces", "unions", "root"] [] ∧ L2.Mk K C f)
    (IN_Question : ∃ f fd, L2.Fun K "__init__" "Question.__init__" s_Question_init f fd ∧ L2.Binds K fd ["self", "schema", "rows", "parts"] [] ∧ L2.Mk K CQ f)
    (DU_sc : ∃ f fd, L2.Fun K "__contains__" "Schema.__contains__" s_Schema_contains f fd ∧ L2.Binds K fd ["self", "base"] [] ∧ InM K C f)
    (DU_se : ∃ f fd, L2.Fun K "__eq__" "Schema.__eq__" s_Schema_eq f fd ∧ L2.Binds K fd ["self", "other"] [] ∧ EqM K C f)
    (DU_qc : ∃ f fd, L2.Fun K "__contains__" "Question.__contains__" s_Question_contains f fd ∧ L2.Binds K fd ["self", "place"] [] ∧ InM K CQ f)
    (B_NoBase : mg "NoBase" = some (.ref CN) → ∃ f fd, L2.Fun K "__init__" "NoBase.__init__" s_NoBase_init f fd ∧ L2.Binds K fd ["self", "base"] [] ∧ NoB K mg CN f)
    (B_NoField : mg "NoField" = some (.ref CF) → ∃ f fd, L2.Fun K "__init__" "NoField.__init__" s_NoField_init f fd ∧ L2.Binds K fd ["self", "base", "field"] [] ∧ NoF K mg CF f)
    (l_Schema_0 : PySem.W.plainGet K C Str.empty = true)
    (l_Schema_1 : PySem.W.hasDictIn K C = true)
    (l_Schema_2 : PySem.W.plainOver K C = true)
    (l_Schema_3 : PySem.W.findIn K (.ref C) "__setattr__" = some (some (.builtin "object.__setattr__")))
    (l_Schema_4 : PySem.W.findIn K (.ref C) "kind_table" = some none)
    (l_Schema_5 : PySem.W.findIn K (.ref C) "face_table" = some none)
    (l_Schema_6 : PySem.W.findIn K (.ref C) "union_table" = some none)
    (l_Schema_7 : PySem.W.findIn K (.ref C) "root" = some none)
    (l_Question_0 : PySem.W.plainGet K CQ Str.empty = true)
    (l_Question_1 : PySem.W.hasDictIn K CQ = true)
    (l_Question_2 : PySem.W.plainOver K CQ = true)
    (l_Question_3 : PySem.W.findIn K (.ref CQ) "__setattr__" = some (some (.builtin "object.__setattr__")))
    (l_Question_4 : PySem.W.findIn K (.ref CQ) "schema" = some none)
    (l_Question_5 : PySem.W.findIn K (.ref CQ) "rows" = some none)
    (l_Question_6 : PySem.W.findIn K (.ref CQ) "part_table" = some none)
    (l_Question_7 : PySem.W.findIn K (.ref CQ) "statement_table" = some none)
    (x_NoBase_0 : PySem.W.findIn K (.ref CN) "__getattribute__" = some (some (.builtin "BaseException.__getattribute__")))
    (x_NoBase_1 : PySem.W.findIn K (.ref CN) "__getattr__" = some none)
    (x_NoBase_2 : PySem.W.subIn K (.ref CN) (.type "BaseException") = some true)
    (x_NoBase_3 : PySem.W.hasDictIn K CN = true)
    (x_NoField_0 : PySem.W.findIn K (.ref CF) "__getattribute__" = some (some (.builtin "BaseException.__getattribute__")))
    (x_NoField_1 : PySem.W.findIn K (.ref CF) "__getattr__" = some none)
    (x_NoField_2 : PySem.W.subIn K (.ref CF) (.type "BaseException") = some true)
    (x_NoField_3 : PySem.W.hasDictIn K CF = true)
    (f_NoBase_base : PySem.W.findIn K (.ref CN) "base" = some none)
    (f_NoField_base : PySem.W.findIn K (.ref CF) "base" = some none)
    (f_NoField_field : PySem.W.findIn K (.ref CF) "field" = some none)
    (q_C_0 : PySem.W.findIn K (.ref C) "__class__" = some (some (.builtin "object.__class__")))
    (q_C_1 : PySem.W.specialIn K (.builtin "object.__class__") "__get__" = some (some (.builtin "getset_descriptor.__get__")))
    (q_C_2 : PySem.W.takesIn K (.builtin "object.__class__") = some true)
    (q_C_3 : PySem.W.mroIn K C (.type "object") = some true)
    (q_C_4 : PySem.W.kitOne K (.ref C) (.ref C) = some true) : mg "Schema" = some (.ref C) → mg "Question" = some (.ref CQ) → mg "NoBase" = some (.ref CN) → mg "NoField" = some (.ref CF) → ClsAll K mg C CQ CN CF :=
  fun g_Schema g_Question g_NoBase g_NoField => ⟨m0, m1, m2, m3, m4, m5, m6, m7, IN_Schema, IN_Question, DU_sc, DU_se, DU_qc, B_NoBase g_NoBase, B_NoField g_NoField, ⟨⟨l_Schema_0, l_Schema_1, l_Schema_2, l_Schema_3⟩, l_Schema_4, l_Schema_5, l_Schema_6, l_Schema_7⟩, ⟨⟨l_Question_0, l_Question_1, l_Question_2, l_Question_3⟩, l_Question_4, l_Question_5, l_Question_6, l_Question_7⟩, ⟨q_C_0, q_C_1, q_C_2, q_C_3, q_C_4⟩, ⟨x_NoBase_0, x_NoBase_1, x_NoBase_2, x_NoBase_3⟩, ⟨x_NoField_0, x_NoField_1, x_NoField_2, x_NoField_3⟩, f_NoBase_base, f_NoField_base, f_NoField_field⟩
theorem front {P : Program} {w : World} {K : PySem.W.Frag} {h : Heap} {mg : Str → Option Value} {fa : Addr} (X : K.In h) (G : h.Ns mainGlobals mg) (hmg : mg "law" = some (.ref fa))
    (D_is_name : ∃ f fd, Df K mg "is_name" s_is_name f fd ["word"])
    (D_is_key : ∃ f fd, Df K mg "is_key" s_is_key f fd ["name", "table"])
    (D_is_table : ∃ f fd, Df K mg "is_table" s_is_table f fd ["table", "least", "most", "taken"])
    (D_is_choice : ∃ f fd, Df K mg "is_choice" s_is_choice f fd ["names", "table"])
    (D_is_fields : ∃ f fd, Df K mg "is_fields" s_is_fields f fd ["fields", "most", "bases"])
    (D_is_kind : ∃ f fd, Df K mg "is_kind" s_is_kind f fd ["worth", "faces", "bases"])
    (D_has_fields : ∃ f fd, Df K mg "has_fields" s_has_fields f fd ["holder", "fields"])
    (D_is_union : ∃ f fd, Df K mg "is_union" s_is_union f fd ["worth", "kinds"])
    (D_is_face : ∃ f fd, Df K mg "is_face" s_is_face f fd ["name", "fields", "kinds", "bases"])
    (D_check_names : ∃ f fd, Df K mg "check_names" s_check_names f fd ["kinds", "faces", "unions"])
    (D_check_schema : ∃ f fd, Df K mg "check_schema" s_check_schema f fd ["kinds", "faces", "unions", "root"])
    (D_Lbox : ∃ f fd, Df K mg "_law_box" s_Lbox f fd ["_law_script"])
    (D_Ldraw : ∃ f fd, Df K mg "_law_draw" s_Ldraw f fd ["_law_box_here", "_law_many"])
    (D_Lwords : ∃ f fd, Df K mg "_law_words" s_Lwords f fd ["_law_box_here", "_law_many"])
    (D_Lshape : ∃ f fd, Df K mg "_law_shape" s_Lshape f fd ["_law_box_here", "_law_bases_here", "_law_most"])
    (D_Lkind : ∃ f fd, Df K mg "_law_kind" s_Lkind f fd ["_law_box_here", "_law_faces", "_law_names", "_law_common", "_law_bases_here", "_law_most"])
    (D_Lschema : ∃ f fd, Df K mg "_law_schema" s_Lschema f fd ["_law_box_here", "_law_most", "_law_kinds"])
    (D_Lbases : ∃ f fd, Df K mg "_law_bases" s_Lbases f fd ["_law_schema_here"])
    (D_Lmade : ∃ f fd, Df K mg "_law_made" s_Lmade f fd ["_law_schema_here"])
    (D_Lsame : ∃ f fd, Df K mg "_law_same" s_Lsame f fd ["_law_one", "_law_other"])
    (D_target_of : ∃ f fd, Df K mg "target_of" s_target_of f fd ["shape"])
    (D_is_plain_int : ∃ f fd, Df K mg "is_plain_int" s_is_plain_int f fd ["number"])
    (D_is_rows : ∃ f fd, Df K mg "is_rows" s_is_rows f fd ["rows"])
    (D_has_members : ∃ f fd, Df K mg "has_members" s_has_members f fd ["schema", "base"])
    (D_is_part : ∃ f fd, Df K mg "is_part" s_is_part f fd ["schema", "part"])
    (D_is_statement : ∃ f fd, Df K mg "is_statement" s_is_statement f fd ["schema", "parts", "base", "statement"])
    (D_is_field : ∃ f fd, Df K mg "is_field" s_is_field f fd ["schema", "base", "statement"])
    (D_inner_rows : ∃ f fd, Df K mg "inner_rows" s_inner_rows f fd ["statement"])
    (D_inner_base : ∃ f fd, Df K mg "inner_base" s_inner_base f fd ["schema", "base", "statement"])
    (D_flags_of : ∃ f fd, Df K mg "flags_of" s_flags_of f fd ["statements"])
    (D_checked_statements : ∃ f fd, Df K mg "checked_statements" s_checked_statements f fd ["schema", "rows", "parts"])
    (D_is_part_table : ∃ f fd, Df K mg "is_part_table" s_is_part_table f fd ["parts"])
    (D_statements_below : ∃ f fd, Df K mg "statements_below" s_statements_below f fd ["schema", "parts", "before", "top"])
    (D_items_of : ∃ f fd, Df K mg "items_of" s_items_of f fd ["top"])
    (D_is_wrong : ∃ f fd, Df K mg "is_wrong" s_is_wrong f fd ["schema", "parts", "before", "item"])
    (D_level_of : ∃ f fd, Df K mg "level_of" s_level_of f fd ["place"])
    (D_uses_of_parts : ∃ f fd, Df K mg "uses_of_parts" s_uses_of_parts f fd ["parts", "found"])
    (D_comes_to : ∃ f fd, Df K mg "comes_to" s_comes_to f fd ["name", "uses"])
    (D_heights_of_parts : ∃ f fd, Df K mg "heights_of_parts" s_heights_of_parts f fd ["parts"])
    (D_height_of : ∃ f fd, Df K mg "height_of" s_height_of f fd ["rows", "heights"])
    (D_height_at : ∃ f fd, Df K mg "height_at" s_height_at f fd ["statement", "heights"])
    (D_Ltable : ∃ f fd, Df K mg "_law_table" s_Ltable f fd ["_law_schema_here", "_law_base"])
    (D_Ltarget : ∃ f fd, Df K mg "_law_target" s_Ltarget f fd ["_law_shape_here"])
    (D_Lplan : ∃ f fd, Df K mg "_law_plan" s_Lplan f fd ["_law_box_here", "_law_schema_here", "_law_room"])
    (D_Lheight : ∃ f fd, Df K mg "_law_height" s_Lheight f fd ["_law_rows_here", "_law_highs"])
    (D_Lrows : ∃ f fd, Df K mg "_law_rows" s_Lrows f fd ["_law_box_here", "_law_plan_here", "_law_base", "_law_high"])
    (D_Lkey : ∃ f fd, Df K mg "_law_key" s_Lkey f fd ["_law_box_here", "_law_plan_here", "_law_at"])
    (D_Lstatement : ∃ f fd, Df K mg "_law_statement" s_Lstatement f fd ["_law_box_here", "_law_plan_here", "_law_base", "_law_high"])
    (D_Lquestion : ∃ f fd, Df K mg "_law_question" s_Lquestion f fd ["_law_box_here", "_law_schema_here", "_law_room", "_law_high"])
    (D_Lasker : ∃ f fd, Df K mg "_law_asker" s_Lasker f fd ["_law_built", "_law_plan_here"])
    (D_Lflags : ∃ f fd, Df K mg "_law_flags" s_Lflags f fd ["_law_rows_here", "_law_parts"])
    (D_Lsteps : ∃ f fd, Df K mg "_law_steps" s_Lsteps f fd ["_law_schema_here", "_law_base", "_law_rows_here", "_law_block"])
    (D_Lall_steps : ∃ f fd, Df K mg "_law_all_steps" s_Lall_steps f fd ["_law_schema_here", "_law_rows_here", "_law_parts"])
    (D_Lmembers : ∃ f fd, Df K mg "_law_members" s_Lmembers f fd ["_law_schema_here", "_law_base"])
    (D_is_shape : ∃ f fd, DfS K mg f fd)
    (gR : ∃ t, mg "MOST_ROWS" = some (.int 6 t))
    (gP : ∃ t, mg "MOST_PARTS" = some (.int 4 t))
    (gL : ∃ t, mg "MOST_LEVELS" = some (.int 5 t))
    (gS : ∃ t, mg "MOST_STATEMENTS" = some (.int 40 t))
    (gF : ∃ t, mg "MOST_FLAGS" = some (.int 3 t))
    (gH : ∃ t, mg "MOST_HEIGHT" = some (.int 5 t))
    (T : Nms mg) (Cs : Cst K mg) (hmax : mg "max" = none)
    (aL : ∃ fa fd, Df K mg "law" s_law fa fd ["_law_script"] ∧ ∀ (s : Shared) (v : Value), BindsTo s fd ⟨[v], []⟩ [("_law_script", v)])
    (cls : ∃ C CQ CN CF, mg "Schema" = some (.ref C) ∧ mg "Question" = some (.ref CQ) ∧ mg "NoBase" = some (.ref CN) ∧ mg "NoField" = some (.ref CF) ∧ ClsAll K mg C CQ CN CF) :
    ∃ fd : FuncData, (∀ (s : Shared) (v : Value), BindsTo s fd ⟨[v], []⟩ [("_law_script", v)]) ∧ ∀ base : Heap, K.In base → base.Ns mainGlobals mg → L2.FnOk P w K mg base L2.CX0 40 fa fd ["_law_script"] (spLaw K) := by
  obtain ⟨fl, fdl, DL, bl⟩ := aL
  have e := hmg.symm.trans DL.g
  cases e
  obtain ⟨C, CQ, CN, CF, g_Schema, g_Question, g_NoBase, g_NoField, A⟩ := cls
  refine ⟨fdl, bl, fun base _ _ => ?_⟩
  exact (all_ok DL D_is_name D_is_key D_is_table D_is_choice D_is_fields D_is_kind D_has_fields D_is_union D_is_face D_check_names D_check_schema D_Lbox D_Ldraw D_Lwords D_Lshape D_Lkind D_Lschema D_Lbases D_Lmade D_Lsame D_target_of D_is_plain_int D_is_rows D_has_members D_is_part D_is_statement D_is_field D_inner_rows D_inner_base D_flags_of D_checked_statements D_is_part_table D_statements_below D_items_of D_is_wrong D_level_of D_uses_of_parts D_comes_to D_heights_of_parts D_height_of D_height_at D_Ltable D_Ltarget D_Lplan D_Lheight D_Lrows D_Lkey D_Lstatement D_Lquestion D_Lasker D_Lflags D_Lsteps D_Lall_steps D_Lmembers D_is_shape A.m0 A.m1 A.m2 A.m3 A.m4 A.m5 A.m6 A.m7 A.IN_Schema A.IN_Question A.DU_sc A.DU_se A.DU_qc A.B_NoBase A.B_NoField gR gP gL gS gF gH T Cs A.L_Schema A.L_Question g_Schema g_Question A.ci_C hmax A.X_NoBase A.X_NoField A.f_NoBase_base A.f_NoField_base A.f_NoField_field).mono (by decide)
end NW
open PySem PySem.W PyProof.Rows
set_option maxRecDepth 100000 in
set_option maxHeartbeats 0 in
theorem PySem.Challenge.cw_nestedwishes_k12_base_at_holds : PySem.Challenge.rw_nestedwishes_k12_base_at.Holds := by
  w_on; o_law; k_head; (case hw => w_witness2)
  k_fill
  refine L2.walk_of (l := PySem.Challenge.rw_nestedwishes_k12_base_at) (n := 63) (k := 40) (x := "_law_script") (CX := fun _ => L2.CX0) (sp := fun w => NW.spLaw _) rfl (by decide) rfl ⟨rfl, by decide, by decide⟩ (fun w h Y => PySem.W.kIn_of Y) ?F (fun _ _ a ns hl _ hS => ⟨a, ns, rfl, hS, hl, fun _ => rfl⟩) (fun _ _ _ _ _ h => h)
  case F =>
    intro w mg fa h KX G hmg
    refine' NW.front KX G hmg ?D_is_name ?D_is_key ?D_is_table ?D_is_choice ?D_is_fields ?D_is_kind ?D_has_fields ?D_is_union ?D_is_face ?D_check_names ?D_check_schema ?D_Lbox ?D_Ldraw ?D_Lwords ?D_Lshape ?D_Lkind ?D_Lschema ?D_Lbases ?D_Lmade ?D_Lsame ?D_target_of ?D_is_plain_int ?D_is_rows ?D_has_members ?D_is_part ?D_is_statement ?D_is_field ?D_inner_rows ?D_inner_base ?D_flags_of ?D_checked_statements ?D_is_part_table ?D_statements_below ?D_items_of ?D_is_wrong ?D_level_of ?D_uses_of_parts ?D_comes_to ?D_heights_of_parts ?D_height_of ?D_height_at ?D_Ltable ?D_Ltarget ?D_Lplan ?D_Lheight ?D_Lrows ?D_Lkey ?D_Lstatement ?D_Lquestion ?D_Lasker ?D_Lflags ?D_Lsteps ?D_Lall_steps ?D_Lmembers ?D_is_shape ?gR ?gP ?gL ?gS ?gF ?gH ?T ?Cs ?hmax ?aL ?cls
    (case D_is_name =>
      refine' NW.df_mk KX G ?a ?l ?c ?k (fun _ _ _ _ _ _ us hl => match us, hl with | [_], _ => rfl)
      (case a => k_is); (case l => k_is); (case c => k_is); (case k => k_is))
    (case D_is_key =>
      refine' NW.df_mk KX G ?a ?l ?c ?k (fun _ _ _ _ _ _ us hl => match us, hl with | [_, _], _ => rfl)
      (case a => k_is); (case l => k_is); (case c => k_is); (case k => k_is))
    (case D_is_table =>
      refine' NW.df_mk KX G ?a ?l ?c ?k (fun _ _ _ _ _ _ us hl => match us, hl with | [_, _, _, _], _ => rfl)
      (case a => k_is); (case l => k_is); (case c => k_is); (case k => k_is))
    (case D_is_choice =>
      refine' NW.df_mk KX G ?a ?l ?c ?k (fun _ _ _ _ _ _ us hl => match us, hl with | [_, _], _ => rfl)
      (case a => k_is); (case l => k_is); (case c => k_is); (case k => k_is))
    (case D_is_fields =>
      refine' NW.df_mk KX G ?a ?l ?c ?k (fun _ _ _ _ _ _ us hl => match us, hl with | [_, _, _], _ => rfl)
      (case a => k_is); (case l => k_is); (case c => k_is); (case k => k_is))
    (case D_is_kind =>
      refine' NW.df_mk KX G ?a ?l ?c ?k (fun _ _ _ _ _ _ us hl => match us, hl with | [_, _, _], _ => rfl)
      (case a => k_is); (case l => k_is); (case c => k_is); (case k => k_is))
    (case D_has_fields =>
      refine' NW.df_mk KX G ?a ?l ?c ?k (fun _ _ _ _ _ _ us hl => match us, hl with | [_, _], _ => rfl)
      (case a => k_is); (case l => k_is); (case c => k_is); (case k => k_is))
    (case D_is_union =>
      refine' NW.df_mk KX G ?a ?l ?c ?k (fun _ _ _ _ _ _ us hl => match us, hl with | [_, _], _ => rfl)
      (case a => k_is); (case l => k_is); (case c => k_is); (case k => k_is))
    (case D_is_face =>
      refine' NW.df_mk KX G ?a ?l ?c ?k (fun _ _ _ _ _ _ us hl => match us, hl with | [_, _, _, _], _ => rfl)
      (case a => k_is); (case l => k_is); (case c => k_is); (case k => k_is))
    (case D_check_names =>
      refine' NW.df_mk KX G ?a ?l ?c ?k (fun _ _ _ _ _ _ us hl => match us, hl with | [_, _, _], _ => rfl)
      (case a => k_is); (case l => k_is); (case c => k_is); (case k => k_is))
    (case D_check_schema =>
      refine' NW.df_mk KX G ?a ?l ?c ?k (fun _ _ _ _ _ _ us hl => match us, hl with | [_, _, _, _], _ => rfl)
      (case a => k_is); (case l => k_is); (case c => k_is); (case k => k_is))
    (case D_Lbox =>
      refine' NW.df_mk KX G ?a ?l ?c ?k (fun _ _ _ _ _ _ us hl => match us, hl with | [_], _ => rfl)
      (case a => k_is); (case l => k_is); (case c => k_is); (case k => k_is))
    (case D_Ldraw =>
      refine' NW.df_mk KX G ?a ?l ?c ?k (fun _ _ _ _ _ _ us hl => match us, hl with | [_, _], _ => rfl)
      (case a => k_is); (case l => k_is); (case c => k_is); (case k => k_is))
    (case D_Lwords =>
      refine' NW.df_mk KX G ?a ?l ?c ?k (fun _ _ _ _ _ _ us hl => match us, hl with | [_, _], _ => rfl)
      (case a => k_is); (case l => k_is); (case c => k_is); (case k => k_is))
    (case D_Lshape =>
      refine' NW.df_mk KX G ?a ?l ?c ?k (fun _ _ _ _ _ _ us hl => match us, hl with | [_, _, _], _ => rfl)
      (case a => k_is); (case l => k_is); (case c => k_is); (case k => k_is))
    (case D_Lkind =>
      refine' NW.df_mk KX G ?a ?l ?c ?k (fun _ _ _ _ _ _ us hl => match us, hl with | [_, _, _, _, _, _], _ => rfl)
      (case a => k_is); (case l => k_is); (case c => k_is); (case k => k_is))
    (case D_Lschema =>
      refine' NW.df_mk KX G ?a ?l ?c ?k (fun _ _ _ _ _ _ us hl => match us, hl with | [_, _, _], _ => rfl)
      (case a => k_is); (case l => k_is); (case c => k_is); (case k => k_is))
    (case D_Lbases =>
      refine' NW.df_mk KX G ?a ?l ?c ?k (fun _ _ _ _ _ _ us hl => match us, hl with | [_], _ => rfl)
      (case a => k_is); (case l => k_is); (case c => k_is); (case k => k_is))
    (case D_Lmade =>
      refine' NW.df_mk KX G ?a ?l ?c ?k (fun _ _ _ _ _ _ us hl => match us, hl with | [_], _ => rfl)
      (case a => k_is); (case l => k_is); (case c => k_is); (case k => k_is))
    (case D_Lsame =>
      refine' NW.df_mk KX G ?a ?l ?c ?k (fun _ _ _ _ _ _ us hl => match us, hl with | [_, _], _ => rfl)
      (case a => k_is); (case l => k_is); (case c => k_is); (case k => k_is))
    (case D_target_of =>
      refine' NW.df_mk KX G ?a ?l ?c ?k (fun _ _ _ _ _ _ us hl => match us, hl with | [_], _ => rfl)
      (case a => k_is); (case l => k_is); (case c => k_is); (case k => k_is))
    (case D_is_plain_int =>
      refine' NW.df_mk KX G ?a ?l ?c ?k (fun _ _ _ _ _ _ us hl => match us, hl with | [_], _ => rfl)
      (case a => k_is); (case l => k_is); (case c => k_is); (case k => k_is))
    (case D_is_rows =>
      refine' NW.df_mk KX G ?a ?l ?c ?k (fun _ _ _ _ _ _ us hl => match us, hl with | [_], _ => rfl)
      (case a => k_is); (case l => k_is); (case c => k_is); (case k => k_is))
    (case D_has_members =>
      refine' NW.df_mk KX G ?a ?l ?c ?k (fun _ _ _ _ _ _ us hl => match us, hl with | [_, _], _ => rfl)
      (case a => k_is); (case l => k_is); (case c => k_is); (case k => k_is))
    (case D_is_part =>
      refine' NW.df_mk KX G ?a ?l ?c ?k (fun _ _ _ _ _ _ us hl => match us, hl with | [_, _], _ => rfl)
      (case a => k_is); (case l => k_is); (case c => k_is); (case k => k_is))
    (case D_is_statement =>
      refine' NW.df_mk KX G ?a ?l ?c ?k (fun _ _ _ _ _ _ us hl => match us, hl with | [_, _, _, _], _ => rfl)
      (case a => k_is); (case l => k_is); (case c => k_is); (case k => k_is))
    (case D_is_field =>
      refine' NW.df_mk KX G ?a ?l ?c ?k (fun _ _ _ _ _ _ us hl => match us, hl with | [_, _, _], _ => rfl)
      (case a => k_is); (case l => k_is); (case c => k_is); (case k => k_is))
    (case D_inner_rows =>
      refine' NW.df_mk KX G ?a ?l ?c ?k (fun _ _ _ _ _ _ us hl => match us, hl with | [_], _ => rfl)
      (case a => k_is); (case l => k_is); (case c => k_is); (case k => k_is))
    (case D_inner_base =>
      refine' NW.df_mk KX G ?a ?l ?c ?k (fun _ _ _ _ _ _ us hl => match us, hl with | [_, _, _], _ => rfl)
      (case a => k_is); (case l => k_is); (case c => k_is); (case k => k_is))
    (case D_flags_of =>
      refine' NW.df_mk KX G ?a ?l ?c ?k (fun _ _ _ _ _ _ us hl => match us, hl with | [_], _ => rfl)
      (case a => k_is); (case l => k_is); (case c => k_is); (case k => k_is))
    (case D_checked_statements =>
      refine' NW.df_mk KX G ?a ?l ?c ?k (fun _ _ _ _ _ _ us hl => match us, hl with | [_, _, _], _ => rfl)
      (case a => k_is); (case l => k_is); (case c => k_is); (case k => k_is))
    (case D_is_part_table =>
      refine' NW.df_mk KX G ?a ?l ?c ?k (fun _ _ _ _ _ _ us hl => match us, hl with | [_], _ => rfl)
      (case a => k_is); (case l => k_is); (case c => k_is); (case k => k_is))
    (case D_statements_below =>
      refine' NW.df_mk KX G ?a ?l ?c ?k (fun _ _ _ _ _ _ us hl => match us, hl with | [_, _, _, _], _ => rfl)
      (case a => k_is); (case l => k_is); (case c => k_is); (case k => k_is))
    (case D_items_of =>
      refine' NW.df_mk KX G ?a ?l ?c ?k (fun _ _ _ _ _ _ us hl => match us, hl with | [_], _ => rfl)
      (case a => k_is); (case l => k_is); (case c => k_is); (case k => k_is))
    (case D_is_wrong =>
      refine' NW.df_mk KX G ?a ?l ?c ?k (fun _ _ _ _ _ _ us hl => match us, hl with | [_, _, _, _], _ => rfl)
      (case a => k_is); (case l => k_is); (case c => k_is); (case k => k_is))
    (case D_level_of =>
      refine' NW.df_mk KX G ?a ?l ?c ?k (fun _ _ _ _ _ _ us hl => match us, hl with | [_], _ => rfl)
      (case a => k_is); (case l => k_is); (case c => k_is); (case k => k_is))
    (case D_uses_of_parts =>
      refine' NW.df_mk KX G ?a ?l ?c ?k (fun _ _ _ _ _ _ us hl => match us, hl with | [_, _], _ => rfl)
      (case a => k_is); (case l => k_is); (case c => k_is); (case k => k_is))
    (case D_comes_to =>
      refine' NW.df_mk KX G ?a ?l ?c ?k (fun _ _ _ _ _ _ us hl => match us, hl with | [_, _], _ => rfl)
      (case a => k_is); (case l => k_is); (case c => k_is); (case k => k_is))
    (case D_heights_of_parts =>
      refine' NW.df_mk KX G ?a ?l ?c ?k (fun _ _ _ _ _ _ us hl => match us, hl with | [_], _ => rfl)
      (case a => k_is); (case l => k_is); (case c => k_is); (case k => k_is))
    (case D_height_of =>
      refine' NW.df_mk KX G ?a ?l ?c ?k (fun _ _ _ _ _ _ us hl => match us, hl with | [_, _], _ => rfl)
      (case a => k_is); (case l => k_is); (case c => k_is); (case k => k_is))
    (case D_height_at =>
      refine' NW.df_mk KX G ?a ?l ?c ?k (fun _ _ _ _ _ _ us hl => match us, hl with | [_, _], _ => rfl)
      (case a => k_is); (case l => k_is); (case c => k_is); (case k => k_is))
    (case D_Ltable =>
      refine' NW.df_mk KX G ?a ?l ?c ?k (fun _ _ _ _ _ _ us hl => match us, hl with | [_, _], _ => rfl)
      (case a => k_is); (case l => k_is); (case c => k_is); (case k => k_is))
    (case D_Ltarget =>
      refine' NW.df_mk KX G ?a ?l ?c ?k (fun _ _ _ _ _ _ us hl => match us, hl with | [_], _ => rfl)
      (case a => k_is); (case l => k_is); (case c => k_is); (case k => k_is))
    (case D_Lplan =>
      refine' NW.df_mk KX G ?a ?l ?c ?k (fun _ _ _ _ _ _ us hl => match us, hl with | [_, _, _], _ => rfl)
      (case a => k_is); (case l => k_is); (case c => k_is); (case k => k_is))
    (case D_Lheight =>
      refine' NW.df_mk KX G ?a ?l ?c ?k (fun _ _ _ _ _ _ us hl => match us, hl with | [_, _], _ => rfl)
      (case a => k_is); (case l => k_is); (case c => k_is); (case k => k_is))
    (case D_Lrows =>
      refine' NW.df_mk KX G ?a ?l ?c ?k (fun _ _ _ _ _ _ us hl => match us, hl with | [_, _, _, _], _ => rfl)
      (case a => k_is); (case l => k_is); (case c => k_is); (case k => k_is))
    (case D_Lkey =>
      refine' NW.df_mk KX G ?a ?l ?c ?k (fun _ _ _ _ _ _ us hl => match us, hl with | [_, _, _], _ => rfl)
      (case a => k_is); (case l => k_is); (case c => k_is); (case k => k_is))
    (case D_Lstatement =>
      refine' NW.df_mk KX G ?a ?l ?c ?k (fun _ _ _ _ _ _ us hl => match us, hl with | [_, _, _, _], _ => rfl)
      (case a => k_is); (case l => k_is); (case c => k_is); (case k => k_is))
    (case D_Lquestion =>
      refine' NW.df_mk KX G ?a ?l ?c ?k (fun _ _ _ _ _ _ us hl => match us, hl with | [_, _, _, _], _ => rfl)
      (case a => k_is); (case l => k_is); (case c => k_is); (case k => k_is))
    (case D_Lasker =>
      refine' NW.df_mk KX G ?a ?l ?c ?k (fun _ _ _ _ _ _ us hl => match us, hl with | [_, _], _ => rfl)
      (case a => k_is); (case l => k_is); (case c => k_is); (case k => k_is))
    (case D_Lflags =>
      refine' NW.df_mk KX G ?a ?l ?c ?k (fun _ _ _ _ _ _ us hl => match us, hl with | [_, _], _ => rfl)
      (case a => k_is); (case l => k_is); (case c => k_is); (case k => k_is))
    (case D_Lsteps =>
      refine' NW.df_mk KX G ?a ?l ?c ?k (fun _ _ _ _ _ _ us hl => match us, hl with | [_, _, _, _], _ => rfl)
      (case a => k_is); (case l => k_is); (case c => k_is); (case k => k_is))
    (case D_Lall_steps =>
      refine' NW.df_mk KX G ?a ?l ?c ?k (fun _ _ _ _ _ _ us hl => match us, hl with | [_, _, _], _ => rfl)
      (case a => k_is); (case l => k_is); (case c => k_is); (case k => k_is))
    (case D_Lmembers =>
      refine' NW.df_mk KX G ?a ?l ?c ?k (fun _ _ _ _ _ _ us hl => match us, hl with | [_, _], _ => rfl)
      (case a => k_is); (case l => k_is); (case c => k_is); (case k => k_is))
    (case D_is_shape =>
      refine' NW.dfs_mk KX G ?a ?l ?c ?k ?t
      (case a => k_is); (case l => k_is); (case c => k_is); (case k => k_is); (case t => k_is))
    (case gR =>
      refine' NW.int_mk_gR KX G ?a ?b
      (case a => k_is); (case b => exact ⟨_, by first | rfl | decide +kernel⟩))
    (case gP =>
      refine' NW.int_mk_gP KX G ?a ?b
      (case a => k_is); (case b => exact ⟨_, by first | rfl | decide +kernel⟩))
    (case gL =>
      refine' NW.int_mk_gL KX G ?a ?b
      (case a => k_is); (case b => exact ⟨_, by first | rfl | decide +kernel⟩))
    (case gS =>
      refine' NW.int_mk_gS KX G ?a ?b
      (case a => k_is); (case b => exact ⟨_, by first | rfl | decide +kernel⟩))
    (case gF =>
      refine' NW.int_mk_gF KX G ?a ?b
      (case a => k_is); (case b => exact ⟨_, by first | rfl | decide +kernel⟩))
    (case gH =>
      refine' NW.int_mk_gH KX G ?a ?b
      (case a => k_is); (case b => exact ⟨_, by first | rfl | decide +kernel⟩))
    (case T =>
      refine' ⟨PySem.W.mg_none_of KX G ?a0, PySem.W.mg_none_of KX G ?a1, PySem.W.mg_none_of KX G ?a2, PySem.W.mg_none_of KX G ?a3, PySem.W.mg_none_of KX G ?a4, PySem.W.mg_none_of KX G ?a5, PySem.W.mg_none_of KX G ?a6, PySem.W.mg_none_of KX G ?a7, PySem.W.mg_none_of KX G ?a8, PySem.W.mg_none_of KX G ?a9, PySem.W.mg_none_of KX G ?a10, PySem.W.mg_none_of KX G ?a11, PySem.W.mg_none_of KX G ?a12⟩
      (case a0 => k_is); (case a1 => k_is); (case a2 => k_is); (case a3 => k_is); (case a4 => k_is); (case a5 => k_is); (case a6 => k_is); (case a7 => k_is); (case a8 => k_is); (case a9 => k_is); (case a10 => k_is); (case a11 => k_is); (case a12 => k_is))
    (case Cs =>
      refine' NW.cst_mk KX G ?a0 ?b0 ?a1 ?b1 ?a2 ?l2 ?a3 ?l3 ?a4 ?b4 ?a5 ?b5 ?a6 ?b6 ?a7 ?b7 ?a8 ?b8 ?a9 ?b9
      (case a0 => k_is); (case a1 => k_is); (case a2 => k_is); (case l2 => k_is); (case a3 => k_is); (case l3 => k_is); (case a4 => k_is); (case a5 => k_is); (case a6 => k_is); (case a7 => k_is); (case a8 => k_is); (case a9 => k_is)
      (case b0 => exact ⟨_, by first | rfl | decide +kernel⟩); (case b1 => exact ⟨_, by first | rfl | decide +kernel⟩); (case b4 => exact ⟨_, by first | rfl | decide +kernel⟩); (case b5 => exact ⟨_, by first | rfl | decide +kernel⟩); (case b6 => exact ⟨_, by first | rfl | decide +kernel⟩); (case b7 => exact ⟨_, by first | rfl | decide +kernel⟩); (case b8 => exact ⟨_, by first | rfl | decide +kernel⟩); (case b9 => exact ⟨_, by first | rfl | decide +kernel⟩))
    (case hmax =>
      refine' PySem.W.mg_none_of KX G ?a
      (case a => k_is))
    (case aL =>
      refine' NW.law_mk KX G ?a ?l ?c ?k
      (case a => k_is); (case l => k_is); (case c => k_is); (case k => k_is))
    (case cls =>
      refine' NW.cls_mk KX G ?s_Schema ?s_Question ?s_NoBase ?s_NoField ?mAll
      (case s_Schema => k_is); (case s_Question => k_is); (case s_NoBase => k_is); (case s_NoField => k_is)
      refine' NW.clsAll_mk ?m0 ?m1 ?m2 ?m3 ?m4 ?m5 ?m6 ?m7 ?IN_Schema ?IN_Question ?DU_sc ?DU_se ?DU_qc ?B_NoBase ?B_NoField ?l_Schema_0 ?l_Schema_1 ?l_Schema_2 ?l_Schema_3 ?l_Schema_4 ?l_Schema_5 ?l_Schema_6 ?l_Schema_7 ?l_Question_0 ?l_Question_1 ?l_Question_2 ?l_Question_3 ?l_Question_4 ?l_Question_5 ?l_Question_6 ?l_Question_7 ?x_NoBase_0 ?x_NoBase_1 ?x_NoBase_2 ?x_NoBase_3 ?x_NoField_0 ?x_NoField_1 ?x_NoField_2 ?x_NoField_3 ?f_NoBase_base ?f_NoField_base ?f_NoField_field ?q_C_0 ?q_C_1 ?q_C_2 ?q_C_3 ?q_C_4
      (case m0 =>
        refine' NW.mt_mk ?a ?i ?l ?c ?k (fun _ _ _ _ _ _ us hl => match us, hl with | [_], _ => rfl)
        (case a => k_is); (case i => k_is); (case l => k_is); (case c => k_is); (case k => k_is))
      (case m1 =>
        refine' NW.mt_mk ?a ?i ?l ?c ?k (fun _ _ _ _ _ _ us hl => match us, hl with | [_, _], _ => rfl)
        (case a => k_is); (case i => k_is); (case l => k_is); (case c => k_is); (case k => k_is))
      (case m2 =>
        refine' NW.mt_mk ?a ?i ?l ?c ?k (fun _ _ _ _ _ _ us hl => match us, hl with | [_, _], _ => rfl)
        (case a => k_is); (case i => k_is); (case l => k_is); (case c => k_is); (case k => k_is))
      (case m3 =>
        refine' NW.mt_mk ?a ?i ?l ?c ?k (fun _ _ _ _ _ _ us hl => match us, hl with | [_, _, _], _ => rfl)
        (case a => k_is); (case i => k_is); (case l => k_is); (case c => k_is); (case k => k_is))
      (case m4 =>
        refine' NW.mt_mk ?a ?i ?l ?c ?k (fun _ _ _ _ _ _ us hl => match us, hl with | [_, _, _], _ => rfl)
        (case a => k_is); (case i => k_is); (case l => k_is); (case c => k_is); (case k => k_is))
      (case m5 =>
        refine' NW.mt_mk ?a ?i ?l ?c ?k (fun _ _ _ _ _ _ us hl => match us, hl with | [_, _], _ => rfl)
        (case a => k_is); (case i => k_is); (case l => k_is); (case c => k_is); (case k => k_is))
      (case m6 =>
        refine' NW.mt_mk ?a ?i ?l ?c ?k (fun _ _ _ _ _ _ us hl => match us, hl with | [_], _ => rfl)
        (case a => k_is); (case i => k_is); (case l => k_is); (case c => k_is); (case k => k_is))
      (case m7 =>
        refine' NW.mt_mk ?a ?i ?l ?c ?k (fun _ _ _ _ _ _ us hl => match us, hl with | [_], _ => rfl)
        (case a => k_is); (case i => k_is); (case l => k_is); (case c => k_is); (case k => k_is))
      (case IN_Schema =>
        refine' NW.init_mk_Schema ?i2 ?l ?c ?k ?i1 ?i3 ?i4
        (case i2 => k_is); (case l => k_is); (case c => k_is); (case k => k_is); (case i1 => k_is); (case i3 => k_is); (case i4 => k_is))
      (case IN_Question =>
        refine' NW.init_mk_Question ?i2 ?l ?c ?k ?i1 ?i3 ?i4
        (case i2 => k_is); (case l => k_is); (case c => k_is); (case k => k_is); (case i1 => k_is); (case i3 => k_is); (case i4 => k_is))
      (case DU_sc =>
        refine' NW.dund_mk_sc ?i1 ?l ?c ?k ?i2
        (case i1 => k_is); (case l => k_is); (case c => k_is); (case k => k_is); (case i2 => k_is))
      (case DU_se =>
        refine' NW.dund_mk_se ?i1 ?l ?c ?k ?i2
        (case i1 => k_is); (case l => k_is); (case c => k_is); (case k => k_is); (case i2 => k_is))
      (case DU_qc =>
        refine' NW.dund_mk_qc ?i1 ?l ?c ?k ?i2
        (case i1 => k_is); (case l => k_is); (case c => k_is); (case k => k_is); (case i2 => k_is))
      (case B_NoBase =>
        intro gNB
        refine' NW.NoBase_mk ?i1 ?l ?c ?k ?o1 ?o2 ?o3 ?o4 ?o5 ?o6 ?i2 gNB ?no0
        (case i1 => k_is); (case l => k_is); (case c => k_is); (case k => k_is); (case o1 => k_is); (case o2 => decide +kernel); (case o3 => k_is); (case o4 => k_is); (case o5 => k_is); (case o6 => k_is); (case i2 => k_is); (case no0 => k_is))
      (case B_NoField =>
        intro gNB
        refine' NW.NoField_mk ?i1 ?l ?c ?k ?o1 ?o2 ?o3 ?o4 ?o5 ?o6 ?i2 gNB ?no0 ?no1
        (case i1 => k_is); (case l => k_is); (case c => k_is); (case k => k_is); (case o1 => k_is); (case o2 => decide +kernel); (case o3 => k_is); (case o4 => k_is); (case o5 => k_is); (case o6 => k_is); (case i2 => k_is); (case no0 => k_is); (case no1 => k_is))
      (case l_Schema_0 => k_is); (case l_Schema_1 => k_is); (case l_Schema_2 => k_is); (case l_Schema_3 => k_is); (case l_Schema_4 => k_is); (case l_Schema_5 => k_is); (case l_Schema_6 => k_is); (case l_Schema_7 => k_is); (case l_Question_0 => k_is); (case l_Question_1 => k_is); (case l_Question_2 => k_is); (case l_Question_3 => k_is); (case l_Question_4 => k_is); (case l_Question_5 => k_is); (case l_Question_6 => k_is); (case l_Question_7 => k_is); (case x_NoBase_0 => k_is); (case x_NoBase_1 => k_is); (case x_NoBase_2 => k_is); (case x_NoBase_3 => k_is); (case x_NoField_0 => k_is); (case x_NoField_1 => k_is); (case x_NoField_2 => k_is); (case x_NoField_3 => k_is); (case f_NoBase_base => k_is); (case f_NoField_base => k_is); (case f_NoField_field => k_is)
      (case q_C_0 => first | k_is | rfl | decide +kernel); (case q_C_1 => first | k_is | rfl | decide +kernel); (case q_C_2 => first | k_is | rfl | decide +kernel); (case q_C_3 => first | k_is | rfl | decide +kernel); (case q_C_4 => first | k_is | rfl | decide +kernel))
