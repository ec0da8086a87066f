import PyProof.Rows.All
import Wide.All
import OpenK.AllK
import Wide.FinOn
import PySem.Challenge.RW_nestedwishes_k02_fields
import HandS.Comp
import HandS.Defaults
import HandS.DictComp
import HandS.ExcCtx
import HandS.ExcField
import HandS.ExcInit
import HandS.ExcInitHot
import HandS.ExcIs
import HandS.ForExc
import HandS.ForMost
import HandS.Hot
import HandS.HotCalls
import HandS.IsInst
import HandS.Iter
import HandS.More
import HandS.Star
import HandS.Strs
import HandS.Style
import HandS.Walk
import KE.KExcIs
set_option Elab.async false
set_option linter.all false
set_option maxRecDepth 100000
set_option maxHeartbeats 4000000
namespace NW
open PySem PySem.Spec PyProof.Rows L2
section
variable {X : Cx} {pins : List (Addr × Obj)} {σ : L2.St} {H : Hp} {s : Shared}
/-- a dict behind a star: its keys -/
theorem star_dk {a : Addr} {kvs : List (Key × V)} {E : Value → Shared → Prop} {Q : List Value → Shared → Prop} (hc : X.calm = true) (I : Inv X pins σ H s) (h : Rd H a (.dK kvs))
    (hQ : ∀ us s', Inv X pins σ H s' → Vals (kvs.map fun kv => kV kv.1) us → Q us s') : PySem.W.StarOf (model X.prog X.w) X.A E (.ref a) Q s := by
  obtain ⟨z, lo, vs, rel, dd⟩ := dk_rd I.hok h
  obtain ⟨ep, hat⟩ := dd.dictAt
  have ek : (kvs.map fun kv => kV kv.1) = vs.map fun p => kV p.1 := by
    have e := congrArg (List.map kV) rel.keys
    rw [List.map_map, List.map_map] at e
    exact e
  have hT : s.TypeIs (.ref a) "dict" := dd.typeIs
  have zz : wpAny (model X.prog X.w) X.A (collect (.ref a)) Q E s := by
    refine PySem.W.kdu_collect (A := X.A) (PySem.W.kdl_dict (knd := mixKind X.prog X.w) (kvs := vs) (ep := ep) lo) (I.ok.hd hc) hat (by rw [← rel.length]; exact z) fun h' tk acc hk hacc => ?_
    have hv : Vals (vs.map fun p => kV p.1) acc.toList := keys_at (by rw [Array.length_toList]; exact hacc.1) fun j v e => hacc.2 j v (by rw [← Array.getElem?_toList]; exact e)
    exact hQ _ _ (I.kept hk) (by rw [ek]; exact hv)
  unfold PySem.W.StarOf notIterableAtAll
  exact wpAny_bind (wpAny_specialOf hT PySem.F.slot_dict_iter.lookup (wpAny_pure ⟨rfl, zz⟩))
def tStarD (te : TE) (t : TA) : TA := fun σ H Q => te σ H fun x H1 => ∃ p kvs, x = V.ref p ∧ Rd H1 p (.dK kvs) ∧ t σ H1 fun ys H2 => Q ((kvs.map fun kv => kV kv.1) ++ ys) H2
/-- *d in a display, d a dict -/
theorem pa_starD {e : Expr} {p : Pos} {es : List Expr} {te : TE} {t : TA} (hc : X.calm = true) (he : PE X e te) (hr : PA X es t) (hs : starEach (.Starred e p :: es) X.env = (true, eval e X.env) :: starEach es X.env := by rfl) :
    PA X (.Starred e p :: es) (tStarD te t) := by
  refine ⟨fun pos pins s σ H Q I h => ?_⟩
  refine PySem.W.items_star (thn (he.run pins s σ H _ I h) fun v s1 ⟨y, H1, I1, ry, a, xs, ey, hx, q⟩ => ?_) hs
  subst ey
  obtain rfl : v = Value.ref a := ry
  refine star_dk hc I1 hx fun us s2 I2 rv => ?_
  exact thn (hr.run pos pins s2 σ H1 _ I2 q) fun ws s3 ⟨vs, H3, I3, r3, q3⟩ => ⟨_ ++ vs, H3, I3, rv.append r3, q3⟩
/-! in, not in by an own __contains__ -/
structure InM (K : PySem.W.Frag) (C f : Addr) : Prop where
  at_ : PySem.W.findIn K (.ref C) "__contains__" = some (some (.ref f))
  fn : PySem.W.isFn K (.ref f) = true
section
variable {CX : CXT} {k : Nat} {C f : Addr} {fd : FuncData} {ps : List Str} {sp : Sp} {E : XK} {ds : List Value} {dvs : List V}
theorem contains_own {a dx : Addr} {fs : List (Str × V)} {Q : Bool → Hp → Prop} {y : V} {v : Value} (m : InM X.K C f) (F : FnOk X.prog X.w X.K X.mg X.base CX k f fd ps sp) (hr : Room k X.A) (hb : Binds X.K fd ps ds) (hd : Vals dvs ds) (hx : Passes CX X E)
    (I : Inv X pins σ H s) (e : H a = some (.ins C dx fs)) (ry : RelV y v) (h : sp ([.ref a, y] ++ dvs) H (fun r H' => ∃ b, r = .bl b ∧ Q b H') E) :
    wpAny (model X.prog X.w) X.A (contains (.ref a) v) (fun b s' => ∃ H', Inv X pins σ H' s' ∧ Q b H') X.xe s := by
  obtain ⟨mA, O, r, _, _, _⟩ := ins_get I.hok e
  obtain ⟨od, J, hl⟩ := O.look
  have KX := I.kIn
  unfold contains
  refine wpAny_holding (wpAny_bind (wpAny_bind (J.type.here ((PySem.W.looks_findIn KX m.at_).here ?_))))
  rw [if_neg (by simp)]
  refine wpAny_bind (PySem.W.unlessNone_K KX J m.at_ m.fn ?_)
  refine thn (run_fn (us := [.ref a, v]) (vs := [.ref a, y]) F hr hb hd hx I (.cons rfl (.cons ry .nil)) h) fun u s' ⟨x, H', I', rx, b, ex, q⟩ => ?_
  subst ex
  cases rx
  exact wpAny_truthy_bool ⟨H', I', q⟩
theorem op_in_own (m : InM X.K C f) (F : FnOk X.prog X.w X.K X.mg X.base CX k f fd ps sp) (hr : Room k X.A) (hb : Binds X.K fd ps ds) (hd : Vals dvs ds) (hx : Passes CX X E) :
    OpR X (compareOp .In) (fun x y H Q => ∃ a dx fs, y = .ref a ∧ H a = some (.ins C dx fs) ∧ sp ([.ref a, x] ++ dvs) H (fun r H' => ∃ b, r = .bl b ∧ Q (.bl b) H') E) := by
  intro pins s σ H x y u v Q I rx ry h
  obtain ⟨a, dx, fs, rfl, ea, q⟩ := h
  cases ry
  exact wpAny_bind (thn (contains_own (Q := fun b H' => Q (.bl b) H') m F hr hb hd hx I ea rx q) fun b s' ⟨H', I', q'⟩ => wpAny_pure ⟨.bl b, H', I', rfl, q'⟩)
theorem op_notIn_own (m : InM X.K C f) (F : FnOk X.prog X.w X.K X.mg X.base CX k f fd ps sp) (hr : Room k X.A) (hb : Binds X.K fd ps ds) (hd : Vals dvs ds) (hx : Passes CX X E) :
    OpR X (compareOp .NotIn) (fun x y H Q => ∃ a dx fs, y = .ref a ∧ H a = some (.ins C dx fs) ∧ sp ([.ref a, x] ++ dvs) H (fun r H' => ∃ b, r = .bl b ∧ Q (.bl (!b)) H') E) := by
  intro pins s σ H x y u v Q I rx ry h
  obtain ⟨a, dx, fs, rfl, ea, q⟩ := h
  cases ry
  exact wpAny_bind (thn (contains_own (Q := fun b H' => Q (.bl (!b)) H') m F hr hb hd hx I ea rx q) fun b s' ⟨H', I', q'⟩ => wpAny_pure ⟨.bl (!b), H', I', rfl, q'⟩)
end
end
end NW
namespace NW
open PySem PySem.Spec PyProof.Rows L2
def topS (i : Nat) : Stmt := PySem.Challenge.pw_nestedwishes_k02_fields.main.body.getD i (.Pass ⟨0, 0, 0, 0⟩)
/-- a def of the text: where it stands, how it binds, its name -/
structure Df (K : PySem.W.Frag) (mg : Str → Option Value) (x : Str) (st : Stmt) (f : Addr) (fd : FuncData) (ps : List Str) : Prop where
  F : Fun K x x st f fd
  b : Binds K fd ps []
  g : mg x = some (.ref f)
/-- built-in names that nobody has bound anew -/
structure Nms (mg : Str → Option Value) : Prop where
  n_len : mg "len" = none
  n_int : mg "int" = none
  n_str : mg "str" = none
  n_list : mg "list" = none
  n_tuple : mg "tuple" = none
  n_dict : mg "dict" = none
  n_set : mg "set" = none
  n_range : mg "range" = none
  n_sorted : mg "sorted" = none
  n_all : mg "all" = none
  n_isinstance : mg "isinstance" = none
  n_enumerate : mg "enumerate" = none
  n_bool : mg "bool" = none
/-! ### heaps that grow, where only the box may change -/
def Gr (b : Addr) (H H' : Hp) : Prop := ∀ a o, a ≠ b → H a = some o → H' a = some o
theorem Gr.refl {b : Addr} {H : Hp} : Gr b H H := fun _ _ _ e => e
theorem Gr.trans {b : Addr} {H H1 H2 : Hp} (x : Gr b H H1) (y : Gr b H1 H2) : Gr b H H2 := fun a o n e => y a o n (x a o n e)
theorem Gr.box {b : Addr} {H : Hp} {o : HO} : Gr b H (upd H b o) := fun a u n e => by rw [upd_ne n]; exact e
theorem Gr.new {b p : Addr} {H : Hp} {o : HO} (h : H p = none) : Gr b H (upd H p o) := fun a u _ e => by rw [upd_ne (ne_of_none e h)]; exact e
theorem Same.gr {b : Addr} {H H' : Hp} (h : L2.Same H H') : Gr b H H' := fun a o _ e => h a o e
/-- an object that is new behind H may change -/
theorem Gr.upd {b p : Addr} {H H1 : Hp} {o : HO} (x : Gr b H H1) (h : H p = none) : Gr b H (upd H1 p o) := fun a u n e => by rw [upd_ne (ne_of_none e h)]; exact x a u n e
theorem Gr.free {b p : Addr} {H H1 : Hp} (x : Gr b H H1) (n : p ≠ b) (h : H1 p = none) : H p = none := by
  cases q : H p with
  | none => rfl
  | some o => rw [x p o n q] at h; cases h
theorem Gr.tup {K : PySem.W.Frag} {b a : Addr} {H H' : Hp} {xs ys : List V} (x : Gr b H H') (hb : H b = some (.lst ys)) (h : SqT K H a xs) : SqT K H' a xs := by
  rcases h with (h | ⟨o, h⟩) | h
  · exact .inl (.inl (x _ _ (ne_of h hb (by intro z; cases z)) h))
  · exact .inl (.inr ⟨o, x _ _ (ne_of h hb (by intro z; cases z)) h⟩)
  · exact .inr h
theorem Gr.lst {K : PySem.W.Frag} {b a : Addr} {H H' : Hp} {xs : List V} (x : Gr b H H') (n : a ≠ b) (h : SqL K H a xs) : SqL K H' a xs := by
  rcases h with (h | ⟨o, h⟩) | h
  · exact .inl (.inl (x _ _ n h))
  · exact .inl (.inr ⟨o, x _ _ n h⟩)
  · exact .inr h
/-! ### the box -/
def bl (r : Addr) (i g z c : Int) : List V := [.ref r, .int i, .int g, .int z, .int c]
structure BoxW (H : Hp) (b r : Addr) (ns : List Int) (i g z c : Int) : Prop where
  at_ : H b = some (.lst (bl r i g z c))
  lst : H r = some (.lst (ns.map V.int))
  ne : r ≠ b
  len : ns.length ≤ 63
  i0 : 0 ≤ i
  z0 : 0 ≤ z
  z1 : z < 2147483648
def Box (H : Hp) (b r : Addr) : Prop := ∃ ns i g z c, BoxW H b r ns i g z c
theorem Box.lst {H : Hp} {b r : Addr} (h : Box H b r) : ∃ xs, H b = some (.lst xs) := by
  obtain ⟨ns, i, g, z, c, w⟩ := h
  exact ⟨_, w.at_⟩
theorem Box.rls {H : Hp} {b r : Addr} (h : Box H b r) : ∃ xs, H r = some (.lst xs) := by
  obtain ⟨ns, i, g, z, c, w⟩ := h
  exact ⟨_, w.lst⟩
theorem Box.gr {H H' : Hp} {b r : Addr} (h : Box H b r) (x : Gr b H H') (e : H' b = H b) : Box H' b r := by
  obtain ⟨ns, i, g, z, c, w⟩ := h
  exact ⟨ns, i, g, z, c, by rw [e]; exact w.at_, x _ _ w.ne w.lst, w.ne, w.len, w.i0, w.z0, w.z1⟩
theorem Box.new {H : Hp} {b r p : Addr} {o : HO} (h : Box H b r) (hp : H p = none) : Box (upd H p o) b r := by
  obtain ⟨xs, e⟩ := h.lst
  exact h.gr (Gr.new hp) (upd_ne (ne_of_none e hp))
theorem Box.upd {H : Hp} {b r p : Addr} {o : HO} (h : Box H b r) (n : p ≠ b) (hp : p ≠ r) : Box (upd H p o) b r := by
  obtain ⟨ns, i, g, z, c, w⟩ := h
  exact ⟨ns, i, g, z, c, by rw [upd_ne n.symm]; exact w.at_, by rw [upd_ne hp.symm]; exact w.lst, w.ne, w.len, w.i0, w.z0, w.z1⟩
theorem Box.neb {H : Hp} {b r p : Addr} (h : Box H b r) (hp : H p = none) : p ≠ b := by
  obtain ⟨xs, e⟩ := h.lst
  exact (ne_of_none e hp).symm
theorem Box.ner {H : Hp} {b r p : Addr} (h : Box H b r) (hp : H p = none) : p ≠ r := by
  obtain ⟨xs, e⟩ := h.rls
  exact (ne_of_none e hp).symm
theorem BoxW.set {H : Hp} {b r : Addr} {ns : List Int} {i g z c : Int} (w : BoxW H b r ns i g z c) {i' g' z' c' : Int} (hi : 0 ≤ i') (hz : 0 ≤ z') (hz1 : z' < 2147483648) : BoxW (L2.upd H b (.lst (bl r i' g' z' c'))) b r ns i' g' z' c' :=
  ⟨upd_same, by rw [upd_ne w.ne]; exact w.lst, w.ne, w.len, hi, hz, hz1⟩
theorem BoxW.sq {K : PySem.W.Frag} {H : Hp} {b r : Addr} {ns : List Int} {i g z c : Int} (w : BoxW H b r ns i g z c) : SqL K H b (bl r i g z c) := SqL.of w.at_
theorem at0 {r : Addr} {i g z c : Int} : atI (bl r i g z c) 0 = some (.ref r) := atI_nat (j := 0) rfl
theorem at1 {r : Addr} {i g z c : Int} : atI (bl r i g z c) 1 = some (.int i) := atI_nat (j := 1) rfl
theorem at2 {r : Addr} {i g z c : Int} : atI (bl r i g z c) 2 = some (.int g) := atI_nat (j := 2) rfl
theorem at3 {r : Addr} {i g z c : Int} : atI (bl r i g z c) 3 = some (.int z) := atI_nat (j := 3) rfl
theorem at4 {r : Addr} {i g z c : Int} : atI (bl r i g z c) 4 = some (.int c) := atI_nat (j := 4) rfl
end NW
namespace NW
open PySem PySem.Spec PyProof.Rows L2
/-! ### what follows the first statements, once for all ways -/
theorem cut1 {t1 u : TS} {D : Ends} {σ : L2.St} {H : Hp} (G : L2.St → Hp → Prop) (hr : ∀ σ' H', G σ' H' → u D σ' H') (h : (∀ σ' H', G σ' H' → u D σ' H') → tSeq t1 u D σ H) : tSeq t1 u D σ H := h hr
theorem cut2 {t1 t2 u : TS} {D : Ends} {σ : L2.St} {H : Hp} (G : L2.St → Hp → Prop) (hr : ∀ σ' H', G σ' H' → u D σ' H') (h : (∀ σ' H', G σ' H' → u D σ' H') → tSeq t1 (tSeq t2 u) D σ H) : tSeq t1 (tSeq t2 u) D σ H := h hr
theorem cut3 {t1 t2 t3 u : TS} {D : Ends} {σ : L2.St} {H : Hp} (G : L2.St → Hp → Prop) (hr : ∀ σ' H', G σ' H' → u D σ' H') (h : (∀ σ' H', G σ' H' → u D σ' H') → tSeq t1 (tSeq t2 (tSeq t3 u)) D σ H) : tSeq t1 (tSeq t2 (tSeq t3 u)) D σ H := h hr
end NW
namespace NW
theorem nz {n : Int} (h : (n == 0) = false) : n ≠ 0 := by
  intro e
  rw [e] at h
  cases h
end NW
namespace NW
open PySem PySem.Spec PyProof.Rows L2
/-- a comprehension without tests: its element -/
theorem lcT {σ : L2.St} {H : Hp} {f g : Hp → Prop} (h : f H) : tYes σ H (fun b H3 => if b = true then f H3 else g H3) := by
  show (if true = true then f H else g H)
  rw [if_pos rfl]
  exact h
end NW
namespace NW
open PySem PySem.Spec PyProof.Rows L2
theorem blT {p : Prop} [Decidable p] (h : p) : V.bl (decide p) = V.bl true := by rw [decide_eq_true h]
theorem blF {p : Prop} [Decidable p] (h : ¬ p) : V.bl (decide p) = V.bl false := by rw [decide_eq_false h]
theorem blNT {p : Prop} [Decidable p] (h : ¬ p) : V.bl (!decide p) = V.bl true := by rw [decide_eq_false h]; rfl
theorem blNF {p : Prop} [Decidable p] (h : p) : V.bl (!decide p) = V.bl false := by rw [decide_eq_true h]; rfl
end NW
namespace NW
open PySem PySem.Spec PyProof.Rows L2
open TL (tl joinL tl_join join_eq)
abbrev LET : Str := "abcdefghijklmnopqrstuvwxyz"
theorem let_cps : LET.cps.toList = (List.range 26).map (97 + ·) := by decide +kernel
theorem let_at {k : Nat} (h : k < 26) : LET.cps.toList[k]? = some (97 + k) := by
  rw [let_cps, List.getElem?_map, List.getElem?_range h]
  rfl
theorem let_len : LET.length ≤ sizeLine := by decide +kernel
/-- one to eight small letters -/
structure IsName (z : Str) : Prop where
  len1 : 1 ≤ z.length
  len8 : z.length ≤ 8
  low : ∀ c ∈ tl z, 97 ≤ c ∧ c ≤ 122
abbrev sgn (c : Nat) : Str := ⟨#[c]⟩
theorem tl_sgn (c : Nat) : tl (sgn c) = [c] := rfl
theorem len_tl (z : Str) : z.length = (tl z).length := by
  show z.cps.size = z.cps.toList.length
  rw [Array.length_toList]
theorem tl_cat (x y : Str) : tl (x ++ y) = tl x ++ tl y := by
  show (x.cps ++ y.cps).toList = _
  rw [Array.toList_append]
/-- a word whose last (or first) letter is the t-th one -/
def mark (f : Nat) (z : Str) : Option Nat := if f = 0 then (tl z).getLast? else (tl z).head?
structure GoodW (f t : Nat) (z : Str) : Prop where
  nm : IsName z
  nt : z ≠ "text"
  nn : z ≠ "number"
  mrk : mark f z = some (97 + t)
theorem sgn_good {f t : Nat} (h : t < 26) : GoodW f t (sgn (97 + t)) := by
  refine ⟨⟨?_, ?_, ?_⟩, ?_, ?_, ?_⟩
  · exact Nat.le_refl 1
  · show 1 ≤ 8; decide
  · intro c hc
    rw [tl_sgn] at hc
    have e := List.mem_singleton.mp hc
    omega
  · intro e
    have e2 := congrArg Str.length e
    have : (("text" : Str)).length = 4 := by decide +kernel
    rw [this] at e2
    exact absurd e2 (by show ¬ (1 = 4); decide)
  · intro e
    have e2 := congrArg Str.length e
    have : (("number" : Str)).length = 6 := by decide +kernel
    rw [this] at e2
    exact absurd e2 (by show ¬ (1 = 6); decide)
  · unfold mark
    split <;> rfl
theorem word_good {f t : Nat} {x : Str} {cs : List Nat} (h : t < 26) (hx : tl x = cs) (hl : cs.length ≤ 7) (hc : ∀ c ∈ cs, 97 ≤ c ∧ c ≤ 122)
    (nt : (if f = 0 then x ++ sgn (97 + t) else sgn (97 + t) ++ x) ≠ "text") (nn : (if f = 0 then x ++ sgn (97 + t) else sgn (97 + t) ++ x) ≠ "number") : GoodW f t (if f = 0 then x ++ sgn (97 + t) else sgn (97 + t) ++ x) := by
  have el : (if f = 0 then x ++ sgn (97 + t) else sgn (97 + t) ++ x).length = cs.length + 1 := by
    split <;> (rw [len_tl, tl_cat, List.length_append, tl_sgn, hx, List.length_singleton] <;> omega)
  refine ⟨⟨by omega, by omega, fun c m => ?_⟩, nt, nn, ?_⟩
  · have m2 : c ∈ cs ∨ c = 97 + t := by
      split at m
      · rw [tl_cat, hx, tl_sgn] at m
        rcases List.mem_append.mp m with m | m
        · exact .inl m
        · exact .inr (List.mem_singleton.mp m)
      · rw [tl_cat, hx, tl_sgn] at m
        rcases List.mem_append.mp m with m | m
        · exact .inr (List.mem_singleton.mp m)
        · exact .inl m
    rcases m2 with m2 | m2
    · exact hc c m2
    · omega
  · unfold mark
    by_cases e : f = 0
    · rw [if_pos e, if_pos e, tl_cat, tl_sgn, List.getLast?_append]
      rfl
    · rw [if_neg e, if_neg e, tl_cat, tl_sgn]
      rfl
/-- the words: as many as asked, each marked by its own letter -/
def WordsOk (f sh : Nat) (ws : List Str) : Prop := ∀ k (h : k < ws.length), GoodW f ((sh + k) % 26) ws[k]
theorem WordsOk.snoc {f sh : Nat} {ws : List Str} {z : Str} (h : WordsOk f sh ws) (g : GoodW f ((sh + ws.length) % 26) z) : WordsOk f sh (ws ++ [z]) := by
  intro k hk
  by_cases e : k < ws.length
  · rw [List.getElem_append_left e]
    exact h k e
  · have e2 : k = ws.length := by
      rw [List.length_append, List.length_singleton] at hk
      omega
    subst e2
    rw [List.getElem_append_right (Nat.le_refl _)]
    simp only [Nat.sub_self, List.getElem_cons_zero]
    exact g
theorem WordsOk.nodup {f sh : Nat} {ws : List Str} (h : WordsOk f sh ws) (hl : ws.length ≤ 26) : ws.Nodup := by
  refine List.pairwise_iff_getElem.mpr fun i j hi hj hij e1 => ?_
  have m1 := (h i hi).mrk
  have m2 := (h j hj).mrk
  rw [e1, m2] at m1
  have := Option.some.inj m1
  omega
theorem joinE : ∀ cs : List Nat, tl (Txt.join "" (cs.map fun c => sgn c)) = cs := by
  intro cs
  rw [join_eq, tl_join]
  have e0 : tl ("" : Str) = [] := by decide +kernel
  rw [e0]
  induction cs with
  | nil => rfl
  | cons c r ih =>
    cases r with
    | nil => rfl
    | cons d r =>
      show [c] ++ ([] ++ joinL [] (((d :: r).map fun c => sgn c).map tl)) = c :: d :: r
      rw [ih]
      rfl
theorem sgn_sum : ∀ cs : List Nat, ((cs.map fun c => sgn c).map Str.length).sum = cs.length := by
  intro cs
  induction cs with
  | nil => rfl
  | cons c r ih =>
    show 1 + ((r.map fun c => sgn c).map Str.length).sum = r.length + 1
    rw [ih]
    omega
end NW
namespace NW
open PySem PySem.Spec PyProof.Rows
/-! ### set(t) of a tuple of different texts -/
section
variable {pr : Program} {wl : World} {Ar : Around} {Post : Result → Shared → Prop} {it : Addr} {foot writ : List Addr} {Gn : Array GenState → Array GenState → Prop} {n : Nat} {Pv : Nat → Value → Prop} {Stt : Nat → Shared → Prop}
def inTake (xs : List Str) (i : Nat) : Str → Bool := fun z => decide (z ∈ xs.take i)
theorem inTake_succ {xs : List Str} {i : Nat} (h : i < xs.length) (z : Str) : (inTake xs i z || decide (z = xs.getD i Str.empty)) = inTake xs (i + 1) z := by
  have e : xs.getD i Str.empty = xs[i] := by rw [List.getD_eq_getElem?_getD, List.getElem?_eq_getElem h]; rfl
  unfold inTake
  rw [e, List.take_add_one, List.getElem?_eq_getElem h, Bool.eq_iff_iff]
  simp only [Bool.or_eq_true, decide_eq_true_eq, List.mem_append, Option.toList_some, List.mem_singleton]
theorem inTake_no {xs : List Str} {i : Nat} (nd : xs.Nodup) (h : i < xs.length) : inTake xs i (xs.getD i Str.empty) = false := by
  have e : xs.getD i Str.empty = xs[i] := by rw [List.getD_eq_getElem?_getD, List.getElem?_eq_getElem h]; rfl
  unfold inTake
  rw [e]
  refine decide_eq_false fun m => ?_
  obtain ⟨j, hj, ej⟩ := List.getElem_of_mem m
  rw [List.getElem_take] at ej
  rw [List.length_take] at hj
  have := (List.getElem_inj nd).mp ej
  omega
theorem loopTx (Wk : WalksS pr wl Ar.in1 it foot writ Gn n Pv Stt) (sa : Addr) (out : sa ∉ foot) (xs : List Str) (lenx : xs.length = n) (nd : xs.Nodup) (few : n ≤ 1000) (tx : ∀ i v, Pv i v → ∃ t, v = .str (xs.getD i Str.empty) t) :
    ∀ (k i : Nat) (s : Shared), i + k = n → Stt i s → s.heap.SetOf (PySem.strKind pr wl) sa (inTake xs i) i →
      (∀ s2, Moved (sa :: writ) Gn s s2 → s2.heap.SetOf (PySem.strKind pr wl) sa (inTake xs n) n → Post (.ok (.ret .none)) s2) → codeAny (model pr wl) Ar (.builtin "set.update.loop" ⟨[.ref sa, .ref it], []⟩) Post s := by
  have notW : sa ∉ writ := fun z => out (Wk.sub _ z)
  have more : ∀ b ∈ writ, b ∈ sa :: writ := fun b m => List.mem_cons_of_mem _ m
  have carry : ∀ {s s2 : Shared} {i : Nat}, Moved writ Gn s s2 → s.heap.SetOf (PySem.strKind pr wl) sa (inTake xs i) i → s2.heap.SetOf (PySem.strKind pr wl) sa (inTake xs i) i := fun {s s2 i} mv st => by
    obtain ⟨o, es, ep, tb, ho, r⟩ := st
    exact ⟨o, es, ep, tb, mv.heap sa _ notW ho, r⟩
  intro k
  induction k with
  | zero =>
    intro i s e st held fin
    obtain rfl : i = n := e
    refine codeAny_builtin F.entry_set_update_loop ?_
    rw [Around.under_plainId F.plain_set_update_loop]
    show wpAny _ Ar.in1 (do let y ← pyNext (.ref it); _) _ _ s
    exact wpAny_bind (Wk.done s _ _ st fun s2 mv => wpAny_pure (fin s2 (mv.mono more) (carry mv held)))
  | succ k ih =>
    intro i s e st held fin
    have lt : i < n := by omega
    refine codeAny_builtin F.entry_set_update_loop ?_
    rw [Around.under_plainId F.plain_set_update_loop]
    show wpAny _ Ar.in1 (do let y ← pyNext (.ref it); _) _ _ s
    refine wpAny_bind (Wk.item i s _ _ lt st fun v s2 pv st2 mv => ?_)
    obtain ⟨t, rfl⟩ := tx i v pv
    have held2 := carry mv held
    generalize hz : xs.getD i Str.empty = z at *
    show wpAny _ Ar.in1 (do let _ ← holding [Value.str z t] (setAdd sa (.str z t)); _) _ _ s2
    refine wpAny_bind (wpAny_holding ?_)
    unfold setAdd
    refine wpAny_holding (wpAny_bind ((PySem.strKind pr wl).pyHash (k := z) (strKind_is _ _ _ _) ?_))
    refine wpAny_setAddHashed_of (knd := PySem.strKind pr wl) (s := { s2 with toks := s2.toks + 1 }) (strKind_is _ _ _ _) rfl held2 (by unfold scanBound; omega) fun h3 sb st3 => ?_
    have no : inTake xs i z = false := by rw [← hz]; exact inTake_no nd (by omega)
    have st4 : h3.SetOf (PySem.strKind pr wl) sa (inTake xs (i + 1)) (i + 1) := SetOf_congr st3 (fun y => by rw [← hz]; exact inTake_succ (by omega) y) (by rw [no]; rfl)
    refine wpAny_pure ⟨plainId_quiet F.plain_set_update_loop _, ih (i + 1) _ (by omega) (Wk.frame _ s2 _ _ st2 (Nat.le_succ _) fun b hb o eo => ?_) st4 fun s5 mv5 st5 => ?_⟩
    · rw [sb.2 b fun z => out (z ▸ hb)]
      exact eo
    · refine fin s5 (Moved.trans Wk.gtrans ((mv.mono more).then_heap (Nat.le_succ _) fun b o hb eo => ?_) mv5) st5
      rw [sb.2 b fun z => hb (z ▸ List.mem_cons_self)]
      exact eo
set_option maxHeartbeats 8000000 in
theorem setTx {tu : Addr} {its : Array Value} {xs : List Str} {Qv : Value → Shared → Prop} {Ex : Value → Shared → Prop} {s : Shared} (calm : Ar.handled = none) (tup : s.heap.IsTuple tu its) (txt : StrsAre its.toList xs) (nd : xs.Nodup) (few : xs.length ≤ 1000)
    (go : ∀ (h2 : Heap) (tk : Nat), h2.SetOf (PySem.strKind pr wl) s.heap.objs.size (inTake xs its.size) its.size → (∀ b o, b < s.heap.objs.size → s.heap.get? b = some o → h2.get? b = some o) → Qv (.ref s.heap.objs.size) { s with heap := h2, toks := tk }) :
    wpAny (model pr wl) Ar (call (.type "set") [.ref tu]) Qv Ex s := by
  obtain ⟨c0, tl0, hmro⟩ := PySem.F.called_set.mro
  have hmade := PySem.F.called_set.made
  have hsub := PySem.F.called_set.sub
  refine wpAny_call (codeAny_of_tree ?_)
  show wpAny _ _ (callAny (.type "set") _) _ _ _
  refine wpAny_pure ⟨Code.quiet_builtin _ (by decide +kernel), codeAny_builtin PySem.F.entry_type_call ?_⟩
  rw [Around.under_plain (weight_type_call_type "set" [.ref tu] []) rfl]
  have q1 := PySem.F.called_set.notType
  have q2 := PySem.F.called_set.canCreate
  have q3 := PySem.F.typeCall_set_1 (.ref tu)
  repeat (any_goals (first | assumption | wp_step))
  generalize hnew : s.heap.objs.size = new at *
  refine codeAny_mono (code_set_new_1 (.ref tu) (E := Ex) (Q₁ := fun u s1 => ∃ led : Bool, u = .ref new ∧ s1 = { s with heap := s.heap.push { cls := .type "set", dict := none, data := .set #[] 0 (.fresh 0 0 led) } }) fun led => ⟨led, by rw [hnew], rfl⟩) fun res s1 hres => ?_
  match res, hres with
  | .error _, hres => exact hres
  | .ok (.ret u), hres =>
    obtain ⟨led, rfl, rfl⟩ := hres
    have at1 : (s.heap.push ({ cls := .type "set", dict := none, data := .set #[] 0 (.fresh 0 0 led) } : Obj)).get? new = some ({ cls := .type "set", dict := none, data := .set #[] 0 (.fresh 0 0 led) } : Obj) := by
      rw [← hnew]
      exact Heap.get?_push_size _ rfl
    have isS : Shared.TypeIs { s with heap := s.heap.push ({ cls := .type "set", dict := none, data := .set #[] 0 (.fresh 0 0 led) } : Obj) } (.ref new) "set" := ⟨_, at1, rfl⟩
    have q4 := PySem.F.called_set.init.lookup
    have q5 := PySem.F.called_set.init.bind (.ref new)
    repeat (any_goals (first | assumption | wp_step))
    refine codeAny_mono (codeAny_call_builtin (R := wants (fun r s2 => r = .none ∧ ∃ h2 tk, s2 = { s with heap := h2, toks := tk } ∧ h2.SetOf (PySem.strKind pr wl) new (inTake xs its.size) its.size ∧ (∀ b o, b < new → s.heap.get? b = some o → h2.get? b = some o)) Ex)
      PySem.F.called_set.init.plain PySem.F.entry_set_init (check_set_init_1 isS ?_)) fun r2 s2 hr2 => ?_
    · obtain ⟨⟨oc, od, odat, osl⟩, at0, hcl, nl, hdl⟩ := tup
      simp only at hcl hdl
      subst hcl hdl
      have at2 : (s.heap.push ({ cls := .type "set", dict := none, data := .set #[] 0 (.fresh 0 0 led) } : Obj)).get? tu = some { cls := .type "tuple", dict := od, data := .seq its nl, slots := osl } := Heap.get?_push_of_some _ at0
      have q6 := PySem.F.sub_tuple_set
      have q7 := PySem.F.sub_tuple_frozenset
      have q8 : (Value.type "tuple" == Value.type "dict") = false := by decide
      have tup2 : (s.heap.push ({ cls := .type "set", dict := none, data := .set #[] 0 (.fresh 0 0 led) } : Obj)).IsTuple tu its := ⟨_, at2, rfl, nl, rfl⟩
      unfold Builtin.«set.__init__» noKeywords Builtin.Frozenset.updateFrom
      generalize hPI : pyIter = PI
      wp_walk
      subst hPI
      refine wpAny_pyIter_tuple tup2 ?_
      refine wpAny_bind (wpAny_runValue ?_)
      have below : tu < new := by rw [← hnew]; exact Heap.lt_size at0
      have hsize : (s.heap.push ({ cls := .type "set", dict := none, data := .set #[] 0 (.fresh 0 0 led) } : Obj)).objs.size = new + 1 := by rw [Heap.size_push, hnew]
      have apart : tu ≠ (s.heap.push ({ cls := .type "set", dict := none, data := .set #[] 0 (.fresh 0 0 led) } : Obj)).objs.size := by rw [hsize]; exact Nat.ne_of_lt (Nat.lt_succ_of_lt below)
      have notIn : new ∉ [(s.heap.push ({ cls := .type "set", dict := none, data := .set #[] 0 (.fresh 0 0 led) } : Obj)).objs.size, tu] := by
        rw [hsize]
        simp only [List.mem_cons, List.not_mem_nil, or_false, not_or]
        exact ⟨Nat.ne_of_lt (Nat.lt_succ_self _), Nat.ne_of_gt below⟩
      have lenx : xs.length = its.size := by rw [← StrsAre.len_eq txt, Array.length_toList]
      have vals : ∀ (i : Nat) (v : Value), its[i]? = some v → ∃ t, v = .str (xs.getD i Str.empty) t := fun i v e => SS.strs_at txt i v (by rw [Array.getElem?_toList]; exact e)
      have calm3 : Ar.in1.in1.in1.handled = none := by simp [calm]
      refine loopTx ((Walks.tuple calm3 _ tu apart its).toS) new notIn xs lenx nd (by omega) vals its.size 0 _ (by omega) ⟨⟨_, Heap.get?_push_size _ rfl, rfl, rfl⟩, tup2.push _⟩ ?start ?fin
      case start =>
        have at3 : ((s.heap.push ({ cls := .type "set", dict := none, data := .set #[] 0 (.fresh 0 0 led) } : Obj)).push { cls := .type "tuple_iterator", data := .fields #[.ref tu, .int 0 0] }).get? new = some ({ cls := .type "set", dict := none, data := .set #[] 0 (.fresh 0 0 led) } : Obj) := Heap.get?_push_of_some _ at1
        exact SetOf_congr ((setObjOf_fresh (knd := PySem.strKind pr wl) led).setOf at3 (by unfold scanBound; omega)) (fun _ => rfl) rfl
      case fin =>
        intro s5 mv st5
        obtain ⟨h5, g5, d5, tk5, os5⟩ := s5
        obtain rfl : g5 = s.gens := mv.gens
        obtain rfl : d5 = s.drawn := mv.drawn
        obtain rfl : os5 = s.os := mv.os
        show wpAny _ _ _ _ _ _
        refine wpAny_pure ?_
        show wpAny _ _ (ret Value.none) _ _ _
        refine wpAny_pure ⟨rfl, h5, tk5, rfl, st5, fun b o hb eo => mv.heap b o ?_ (Heap.get?_push_of_some _ (Heap.get?_push_of_some _ eo))⟩
        rw [hsize]
        simp only [List.mem_cons, List.not_mem_nil, or_false, not_or]
        exact ⟨Nat.ne_of_lt hb, Nat.ne_of_lt (Nat.lt_succ_of_lt hb)⟩
    · match r2, hr2 with
      | .error _, hr2 => exact hr2
      | .ok (.ret u), hr2 =>
        obtain ⟨rfl, h2, tk, rfl, st2, kept⟩ := hr2
        repeat (any_goals (first | assumption | wp_step))
        exact go _ _ st2 kept
      | .ok .next, hr2 => exact hr2.elim
      | .ok .brk, hr2 => exact hr2.elim
      | .ok .cont, hr2 => exact hr2.elim
  | .ok .next, hres => exact hres.elim
  | .ok .brk, hres => exact hres.elim
  | .ok .cont, hres => exact hres.elim
end
end NW
namespace NW
open PySem PySem.Spec PyProof.Rows L2
open TL (tl)
section
variable {X : Cx} {pins : List (Addr × Obj)} {σ : L2.St} {H : Hp} {s : Shared}
/-- in, of a list, a tuple or a dict -/
theorem op_in_any (hu : X.A.units + 1 < cLine) : OpR X (compareOp .In) (fun x y H Q => rIn X.K false x y H Q ∨ ∃ a o, y = .ref a ∧ DGet H a x o ∧ Q (.bl o.isSome) H) := by
  intro pins s σ H x y v u Q I rx ry h
  rcases h with h | ⟨a, o, rfl, g, q⟩
  · exact op_in_seq pins s σ H x y v u Q I rx ry h
  · obtain rfl : u = Value.ref a := ry
    exact d_in hu I g rx fun _ I3 => ⟨.bl o.isSome, H, I3, rfl, q⟩
/-- len of a dict, also of one that is walked -/
theorem call_lenR : CallR X (.builtin "len") (fun xs H Q => ∃ a kvs, xs = [V.ref a] ∧ Rd H a (.dK kvs) ∧ Q (.int kvs.length) H) := by
  intro pins s σ H xs us Q I r h
  obtain ⟨a, kvs, rfl, ha, q⟩ := h
  rw [Vals.ref1 r]
  exact d_len I ha fun t _ I2 => ⟨.int kvs.length, H, I2, ⟨t, rfl⟩, q⟩
/-- what len(set(xs)) asks: different texts in a tuple -/
def tLenSetN (K : PySem.W.Frag) (ta : TE) : TE := fun σ H Q => ta σ H fun x H1 => ∃ l, ∃ xs : List Str, x = .ref l ∧ SqT K H1 l (xs.map V.str) ∧ xs.Nodup ∧ xs.length ≤ 1000 ∧ Q (.int xs.length) H1
theorem pe_lenSetN {a : Expr} {ta : TE} {p p2 q pos : Pos} (hc : X.calm = true) (hg : Gl X "len") (hm : X.mg "len" = none) (hg2 : Gl X "set") (hm2 : X.mg "set" = none) (ha : PE X a ta)
    (na : starEach [a] X.env = (false, eval a X.env) :: starEach [] X.env := by rfl) : PE X (.Call (.Name "len" p) [.Call (.Name "set" p2) [a] [] q] [] pos) (tLenSetN X.K ta) := by
  refine ⟨fun pins s σ H Q I h => ?_⟩
  refine Call_ (ld_blt I hg hm boot_len ?_)
  refine PyProof.Rows.callWith_builtin1 (args_cons (Call_ (ld_blt I hg2 hm2 boot_set (PyProof.Rows.callWith_type1 (args_cons (thn (ha.run pins s σ H _ I h) fun v s1 ⟨x, H1, I1, r1, tu, xs, ex, ht, nd, few, q1⟩ => args_nil ?_) na) na rfl))) rfl) rfl rfl
  subst ex
  cases r1
  obtain ⟨its, rv, pl, _⟩ := I1.tuple ht
  refine setTx (I1.ok.hd hc) pl (by simpa using strsAre_of rv) nd few fun h2 tk st kept => ?_
  refine args_nil ?_
  have en : its.toArray.size = xs.length := by rw [List.size_toArray, ← rv.length, List.length_map]
  rw [en] at st
  obtain ⟨o, es, ep, t, ho, hex, hd, _, _, _, hf, hn⟩ := st
  have I2 : Inv X pins σ H1 { s1 with heap := h2, toks := tk } := I1.kept fun b o e => kept b o (Heap.lt_size e) e
  exact call_len_set ho hex hd hf (by rw [hn]; omega) ⟨.int xs.length, H1, I2.tok _, ⟨_, by rw [hn]⟩, q1⟩
end
/-! ### shapes in the heap -/
inductive Shp where
  | base (z : Str)
  | sure (s : Shp)
  | list (s : Shp)
  deriving DecidableEq
def ShAt (H : Hp) : V → Shp → Prop
  | v, .base z => v = .str z
  | v, .sure s => ∃ a u, v = .ref a ∧ H a = some (.tup [.str "sure", u]) ∧ ShAt H u s
  | v, .list s => ∃ a u, v = .ref a ∧ H a = some (.tup [.str "list", u]) ∧ ShAt H u s
theorem ShAt.gr {b : Addr} {H H' : Hp} {xs : List V} (hb : H b = some (.lst xs) ∨ ∃ kvs, H b = some (.dK kvs)) (x : Gr b H H') : ∀ {s : Shp} {v : V}, ShAt H v s → ShAt H' v s := by
  have ne : ∀ {a : Addr} {ys : List V}, H a = some (.tup ys) → a ≠ b := by
    intro a ys e
    rcases hb with h | ⟨_, h⟩
    · exact ne_of e h (by intro z; cases z)
    · exact ne_of e h (by intro z; cases z)
  intro s
  induction s with
  | base z => intro v h; exact h
  | sure s ih =>
    rintro v ⟨a, u, e, ha, hu⟩
    exact ⟨a, u, e, x _ _ (ne ha) ha, ih hu⟩
  | list s ih =>
    rintro v ⟨a, u, e, ha, hu⟩
    exact ⟨a, u, e, x _ _ (ne ha) ha, ih hu⟩
theorem ShAt.same {H H' : Hp} (x : Same H H') : ∀ {s : Shp} {v : V}, ShAt H v s → ShAt H' v s := by
  intro s
  induction s with
  | base z => intro v h; exact h
  | sure s ih =>
    rintro v ⟨a, u, e, ha, hu⟩
    exact ⟨a, u, e, x _ _ ha, ih hu⟩
  | list s ih =>
    rintro v ⟨a, u, e, ha, hu⟩
    exact ⟨a, u, e, x _ _ ha, ih hu⟩
/-- with room for n more wrappers, o: the wrapper around is "sure" -/
def okS (bases : List Str) : Nat → Bool → Shp → Prop
  | _, _, .base z => z ∈ bases
  | 0, _, .sure _ => False
  | 0, _, .list _ => False
  | n + 1, o, .sure s => o = false ∧ okS bases n true s
  | n + 1, _, .list s => okS bases n false s
/-! ### fields, kinds, faces, unions in the heap -/
abbrev Fld := Str × V × Shp
def fkv (fs : List Fld) : List (Key × V) := fs.map fun f => ((Sum.inr f.1 : Key), f.2.1)
structure FldAt (H : Hp) (d : Addr) (fs : List Fld) : Prop where
  at_ : H d = some (.dK (fkv fs))
  sh : ∀ f ∈ fs, ShAt H f.2.1 f.2.2
structure KRow where
  nm : Str
  t : Addr
  fa : Addr
  da : Addr
  fcs : List Str
  fds : List Fld
structure KRow.At (H : Hp) (k : KRow) : Prop where
  t : H k.t = some (.tup [.ref k.fa, .ref k.da])
  f : H k.fa = some (.tup (k.fcs.map V.str))
  d : FldAt H k.da k.fds
structure FRow where
  nm : Str
  da : Addr
  fds : List Fld
structure URow where
  nm : Str
  t : Addr
  ms : List Str
def kkv (ks : List KRow) : List (Key × V) := ks.map fun k => ((Sum.inr k.nm : Key), V.ref k.t)
def fkvs (fs : List FRow) : List (Key × V) := fs.map fun k => ((Sum.inr k.nm : Key), V.ref k.da)
def ukv (us : List URow) : List (Key × V) := us.map fun k => ((Sum.inr k.nm : Key), V.ref k.t)
structure SchAt (H : Hp) (kt ft ut : Addr) (ks : List KRow) (fs : List FRow) (us : List URow) : Prop where
  kd : H kt = some (.dK (kkv ks))
  fd : H ft = some (.dK (fkvs fs))
  ud : H ut = some (.dK (ukv us))
  ka : ∀ k ∈ ks, k.At H
  fa : ∀ f ∈ fs, FldAt H f.da f.fds
  ua : ∀ u ∈ us, H u.t = some (.tup (u.ms.map V.str))
/-- an object that is neither a tuple nor a dict -/
def Oth (H : Hp) (b : Addr) : Prop := ∃ o, H b = some o ∧ (∀ xs, o ≠ .tup xs) ∧ ∀ kvs, o ≠ .dK kvs
theorem Oth.lst {H : Hp} {b : Addr} {xs : List V} (h : H b = some (.lst xs)) : Oth H b := ⟨_, h, (by intro _ z; cases z), (by intro _ z; cases z)⟩
theorem Oth.ins {H : Hp} {b C dx : Addr} {fs : List (Str × V)} (h : H b = some (.ins C dx fs)) : Oth H b := ⟨_, h, (by intro _ z; cases z), (by intro _ z; cases z)⟩
theorem Oth.net {H : Hp} {a b : Addr} {xs : List V} (h : Oth H b) (e : H a = some (.tup xs)) : a ≠ b := by
  obtain ⟨o, ho, h1, _⟩ := h
  exact ne_of e ho fun z => h1 _ z.symm
theorem Oth.ned {H : Hp} {a b : Addr} {kvs : List (Key × V)} (h : Oth H b) (e : H a = some (.dK kvs)) : a ≠ b := by
  obtain ⟨o, ho, _, h1⟩ := h
  exact ne_of e ho fun z => h1 _ z.symm
theorem ShAt.grO {b : Addr} {H H' : Hp} (hb : Oth H b) (x : Gr b H H') : ∀ {s : Shp} {v : V}, ShAt H v s → ShAt H' v s := by
  intro s
  induction s with
  | base z => intro v h; exact h
  | sure s ih =>
    rintro v ⟨a, u, e, ha, hu⟩
    exact ⟨a, u, e, x _ _ (hb.net ha) ha, ih hu⟩
  | list s ih =>
    rintro v ⟨a, u, e, ha, hu⟩
    exact ⟨a, u, e, x _ _ (hb.net ha) ha, ih hu⟩
theorem FldAt.gr {b : Addr} {H H' : Hp} {d : Addr} {fs : List Fld} (hb : Oth H b) (x : Gr b H H') (h : FldAt H d fs) : FldAt H' d fs :=
  ⟨x _ _ (hb.ned h.at_) h.at_, fun f m => (h.sh f m).grO hb x⟩
theorem KRow.At.gr {b : Addr} {H H' : Hp} {k : KRow} (hb : Oth H b) (x : Gr b H H') (h : k.At H) : k.At H' :=
  ⟨x _ _ (hb.net h.t) h.t, x _ _ (hb.net h.f) h.f, h.d.gr hb x⟩
theorem SchAt.gr {b : Addr} {H H' : Hp} {kt ft ut : Addr} {ks : List KRow} {fs : List FRow} {us : List URow} (hb : Oth H b) (x : Gr b H H') (h : SchAt H kt ft ut ks fs us) : SchAt H' kt ft ut ks fs us :=
  ⟨x _ _ (hb.ned h.kd) h.kd, x _ _ (hb.ned h.fd) h.fd, x _ _ (hb.ned h.ud) h.ud, fun k m => (h.ka k m).gr hb x, fun f m => (h.fa f m).gr hb x,
    fun u m => x _ _ (hb.net (h.ua u m)) (h.ua u m)⟩
theorem FldAt.same {H H' : Hp} {d : Addr} {fs : List Fld} (x : Same H H') (h : FldAt H d fs) : FldAt H' d fs := ⟨x _ _ h.at_, fun f m => (h.sh f m).same x⟩
theorem KRow.At.same {H H' : Hp} {k : KRow} (x : Same H H') (h : k.At H) : k.At H' := ⟨x _ _ h.t, x _ _ h.f, h.d.same x⟩
theorem SchAt.same {H H' : Hp} {kt ft ut : Addr} {ks : List KRow} {fs : List FRow} {us : List URow} (x : Same H H') (h : SchAt H kt ft ut ks fs us) : SchAt H' kt ft ut ks fs us :=
  ⟨x _ _ h.kd, x _ _ h.fd, x _ _ h.ud, fun k m => (h.ka k m).same x, fun f m => (h.fa f m).same x, fun u m => x _ _ (h.ua u m)⟩
/-! ### a schema as it should be -/
structure FdsOk (bases : List Str) (fds : List Fld) (most : Nat) : Prop where
  n0 : 1 ≤ fds.length
  n1 : fds.length ≤ most
  nd : (fds.map (·.1)).Nodup
  nm : ∀ f ∈ fds, IsName f.1
  sh : ∀ f ∈ fds, okS bases 4 false f.2.2
  tx : ∀ z ∈ bases, PyData.strOk z = true
def bsOf (ks : List KRow) (fs : List FRow) (us : List URow) : List Str := [("number" : Str), ("text" : Str)] ++ (ks.map (·.nm) ++ (fs.map (·.nm) ++ us.map (·.nm)))
structure SchOk (ks : List KRow) (fs : List FRow) (us : List URow) (root : Str) : Prop where
  k0 : 1 ≤ ks.length
  k1 : ks.length ≤ 6
  f1 : fs.length ≤ 3
  u1 : us.length ≤ 3
  nd : (bsOf ks fs us).Nodup
  nk : ∀ k ∈ ks, IsName k.nm
  nf : ∀ k ∈ fs, IsName k.nm
  nu : ∀ k ∈ us, IsName k.nm
  kf : ∀ k ∈ ks, k.fcs.Nodup ∧ (∀ z ∈ k.fcs, z ∈ fs.map (·.nm)) ∧ k.fcs.length ≤ 3
  kd : ∀ k ∈ ks, FdsOk (bsOf ks fs us) k.fds 5
  fd : ∀ f ∈ fs, FdsOk (bsOf ks fs us) f.fds 4
  fk : ∀ f ∈ fs, ∃ k ∈ ks, f.nm ∈ k.fcs
  ff : ∀ f ∈ fs, ∀ k ∈ ks, f.nm ∈ k.fcs → ∀ x ∈ f.fds, ∃ y ∈ k.fds, y.1 = x.1 ∧ y.2.2 = x.2.2
  ud : ∀ u ∈ us, u.ms.Nodup ∧ 1 ≤ u.ms.length ∧ u.ms.length ≤ 4 ∧ ∀ z ∈ u.ms, z ∈ ks.map (·.nm)
  rt : root ∈ ks.map (·.nm)
/-! ### a dict by its texts -/
theorem valV_nd {κ : Type} [DecidableEq κ] : ∀ {kvs : List (κ × V)} {k : κ} {v : V}, (kvs.map (·.1)).Nodup → (k, v) ∈ kvs → valV kvs k = some v
  | [], _, _, _, m => by cases m
  | p :: r, k, v, nd, m => by
    have nd' : p.1 ∉ r.map (·.1) ∧ (r.map (·.1)).Nodup := List.nodup_cons.mp nd
    by_cases e : p.1 = k
    · have ev : (k, v) = p := by
        rcases List.mem_cons.mp m with m | m
        · exact m
        · exact absurd (e ▸ List.mem_map.mpr ⟨_, m, rfl⟩) nd'.1
      unfold valV
      rw [List.find?_cons_of_pos (by simpa using e), ← ev]
      rfl
    · rcases List.mem_cons.mp m with m | m
      · exact absurd (by rw [← m]) e
      · unfold valV
        rw [List.find?_cons_of_neg (by simpa using e)]
        exact valV_nd nd'.2 m
theorem valV_map {α : Type} {l : List α} {f : α → Str} {g : α → V} (nd : (l.map f).Nodup) {a : α} (m : a ∈ l) : valV (l.map fun a => ((Sum.inr (f a) : Key), g a)) (Sum.inr (f a)) = some (g a) := by
  refine valV_nd ?_ (List.mem_map.mpr ⟨a, m, rfl⟩)
  rw [List.map_map]
  have : (l.map f).map (Sum.inr : Str → Key) = l.map (Prod.fst ∘ fun a => ((Sum.inr (f a) : Key), g a)) := by rw [List.map_map]; rfl
  rw [← this]
  exact (List.pairwise_map.mpr (nd.imp fun h e => h (Sum.inr.inj e)))
theorem valV_out {α : Type} {l : List α} {f : α → Str} {g : α → V} {z : Str} (m : z ∉ l.map f) : valV (l.map fun a => ((Sum.inr (f a) : Key), g a)) (Sum.inr z) = none := by
  unfold valV
  rw [List.find?_eq_none.mpr]
  · rfl
  · intro x hx
    obtain ⟨a, ha, rfl⟩ := List.mem_map.mp hx
    simp only [decide_eq_true_eq]
    intro e
    exact m (List.mem_map.mpr ⟨a, ha, Sum.inr.inj e⟩)
theorem keys_map {α : Type} (l : List α) (f : α → Str) (g : α → V) : (l.map fun a => ((Sum.inr (f a) : Key), g a)).map (·.1) = (l.map f).map Sum.inr := by
  rw [List.map_map, List.map_map]
  rfl
theorem inV_strs {z : Str} {l : List Str} : inV (.str z) (l.map V.str) = decide (z ∈ l) := by
  unfold inV
  rw [List.any_map, Bool.eq_iff_iff, List.any_eq_true, decide_eq_true_eq]
  constructor
  · rintro ⟨x, hx, e⟩
    have : x = z := by simpa [eqV] using e
    exact this ▸ hx
  · intro h
    exact ⟨z, h, by simp [eqV]⟩
theorem flat_map (l : List Str) : (l.map V.str).all flatV = true := by
  rw [List.all_map]
  exact List.all_eq_true.mpr fun _ _ => rfl
end NW
namespace NW
open PySem PySem.Spec PyProof.Rows L2
/-! ### the same rules within a comprehension's block -/
section
variable {X : Cx} (K : PySem.W.Frag)
theorem op_notIn_seqK (h : X.K = K := by rfl) : OpR X (compareOp .NotIn) (rIn K true) := h ▸ op_notIn_seq
theorem op_in_seqK (h : X.K = K := by rfl) : OpR X (compareOp .In) (rIn K false) := h ▸ op_in_seq
theorem ix_listK (h : X.K = K := by rfl) : IxR X (rIxL K) := h ▸ ix_list
theorem ix_tupK (h : X.K = K := by rfl) : IxR X (rIxT K) := h ▸ ix_tup
theorem op_eqDK (hu : X.A.units + 64 < cLine) (h : X.K = K := by rfl) : OpR X (compareOp .Eq) (rEqD K) := h ▸ op_eqD hu
end
end NW
namespace NW
open PySem PySem.Spec PyProof.Rows L2
open TL (tl)
theorem IsName.tx {z : Str} (h : IsName z) : PyData.strOk z = true := by
  unfold PyData.strOk
  rw [Array.all_eq_true']
  intro c hc
  have := h.low c (Array.mem_toList_iff.mpr hc)
  exact decide_eq_true (by omega)
end NW
namespace NW
open PySem PySem.Spec PyProof.Rows L2
open TL (tl)
/-- the constants of the modules -/
structure Cst (K : PySem.W.Frag) (mg : Str → Option Value) : Prop where
  LETTERS : ∃ t, mg "LETTERS" = some (.str LET t)
  LONGEST : ∃ t, mg "LONGEST" = some (.int 8 t)
  LEAVES : ∃ a, mg "LEAVES" = some (.ref a) ∧ ∀ H, SqT K H a [.str "number", .str "text"]
  WRAPPERS : ∃ a, mg "WRAPPERS" = some (.ref a) ∧ ∀ H, SqT K H a [.str "list", .str "sure"]
  MOST_KINDS : ∃ t, mg "MOST_KINDS" = some (.int 6 t)
  MOST_FACES : ∃ t, mg "MOST_FACES" = some (.int 3 t)
  MOST_UNIONS : ∃ t, mg "MOST_UNIONS" = some (.int 3 t)
  MOST_KIND_FIELDS : ∃ t, mg "MOST_KIND_FIELDS" = some (.int 5 t)
  MOST_FACE_FIELDS : ∃ t, mg "MOST_FACE_FIELDS" = some (.int 4 t)
  MOST_UNION_KINDS : ∃ t, mg "MOST_UNION_KINDS" = some (.int 4 t)
abbrev s_is_name : Stmt := topS 9
abbrev N_is_name : List Str := ["word", "letter"]
theorem sc_is_name : FnScope N_is_name ["word"] (defScope s_is_name) := ⟨rfl, rfl, rfl, by decide +kernel, rfl, by decide +kernel, by decide +kernel⟩
abbrev s_is_key : Stmt := topS 10
abbrev N_is_key : List Str := ["name", "table"]
theorem sc_is_key : FnScope N_is_key ["name", "table"] (defScope s_is_key) := ⟨rfl, rfl, rfl, by decide +kernel, rfl, by decide +kernel, by decide +kernel⟩
section
variable {P : Program} {w : World} {K : PySem.W.Frag} {mg : Str → Option Value} {base : Heap}
def spIsName : Sp := fun vs H Q _ => ∃ z : Str, vs = [.str z] ∧ IsName z ∧ ∀ H', Same H H' → Q (.bl true) H'
theorem same_new {H : Hp} {p : Addr} {o : HO} (h : H p = none) : Same H (upd H p o) := fun b x e => by
  rw [upd_ne (ne_of_none e h)]
  exact e
theorem same_upd {H H1 : Hp} {p : Addr} {o : HO} (x : Same H H1) (h : H p = none) : Same H (upd H1 p o) := fun b u e => by
  rw [upd_ne (ne_of_none e h)]
  exact x b u e
theorem all_true (n : Nat) : (List.replicate n true).all id = true := by
  rw [List.all_replicate]
  cases n <;> simp
theorem rep_succ {n : Nat} : (List.replicate n true).map V.bl ++ [V.bl true] = (List.replicate (n + 1) true).map V.bl := by
  rw [List.replicate_succ', List.map_append]
  rfl
theorem ok_is_name {f : Addr} {fd : FuncData} (D : Df K mg "is_name" s_is_name f fd ["word"]) (T : Nms mg) (C : Cst K mg) : FnOk P w K mg base CX0 1 f fd ["word"] spIsName := by
  obtain ⟨t1, g_LETTERS⟩ := C.LETTERS
  obtain ⟨t2, g_LONGEST⟩ := C.LONGEST
  refine D.F.ok sc_is_name (fun vs H Q E h => ?_) (fun cdv A outer s H vs Q E hr h => ?_)
  · obtain ⟨z, rfl, _⟩ := h
    rfl
  · obtain ⟨z, rfl, hz, q⟩ := h
    refine ⟨_, (pss_one (ps_ret (pe_and (pe_callB call_isi (by rfl) T.n_isinstance (by decide +kernel) (pa_cons (pv 0) (pa_cons (pe_bltn (v := .ty "str") (by rfl) T.n_str (by decide +kernel) rfl) pa_nil))) (pe_and (pe_chain op_le op_le pe_int (pe_callB call_len_str (by rfl) T.n_len PySem.boot_len (pa_cons (pv 0) pa_nil)) (pe_glob (v := .int 8) (by rfl) g_LONGEST ⟨_, rfl⟩)) (pe_one (pe_callB (cr_all rfl) (by rfl) T.n_all (by decide +kernel) (pa_cons (pe_lc (own := [("letter", 1)]) (g := (gName 1)) (tt := tYes) rfl sc_is_name.nd (pi_str (pv 0)) (blkOk_by (own := [("letter", 1)]) (N := N_is_name) (sc := defScope s_is_name) (by decide +kernel)) (fun _ _ _ _ _ => (pg_name (i := 1) sc_is_name.nd rfl (.inl rfl))) (fun _ _ _ _ _ => pts_nil) (fun _ _ _ _ _ => (pe_cmpR op_in_sign (pv 1) (pe_glob (v := .str LET) (by rfl) g_LETTERS ⟨_, rfl⟩) (by rfl)))) pa_nil))))))), ?_⟩
    refine ⟨.str z, rfl, _, _, _, _, true, rfl, .ty "str", .base (.str z), kit_ty (by decide +kernel), true, rfl, iteT ?_⟩
    have hs : z.length ≤ sizeLine := Nat.le_trans hz.len8 (by decide)
    have l1 : decide ((1 : Int) ≤ (z.length : Int)) = true := decide_eq_true (by have := hz.len1; omega)
    have l2 : decide ((z.length : Int) ≤ 8) = true := decide_eq_true (by have := hz.len8; omega)
    refine ⟨.str z, rfl, z, rfl, hs, _, _, rfl, rfl, true, blT (by have := hz.len1; omega), iteT ⟨_, _, rfl, rfl, true, blT (by have := hz.len8; omega), iteT ⟨.str z, rfl, z, rfl, fun Da nD => ?_⟩⟩⟩
    refine lc_it walk_str (fun i H' => H' = upd H Da (.lst ((List.replicate i true).map V.bl))) rfl (fun _ _ _ _ => trivial) ?_ ?_
    · rintro i x H3 H4 hi rfl ⟨rfl, c, hc, rfl⟩
      have hcm : c ∈ tl z := List.mem_of_getElem? (by rw [Array.getElem?_toList]; exact hc)
      have hl := hz.low c hcm
      have hm : c ∈ LET.cps.toList := by
        have e := let_at (k := c - 97) (by omega)
        rw [show 97 + (c - 97) = c by omega] at e
        exact List.mem_of_getElem? e
      refine ⟨rfl, lcT ⟨_, rfl, c, LET, rfl, rfl, _, upd_same, ?_, ?_⟩⟩
      · rw [List.length_map, List.length_replicate]
        have h1 := hz.len8
        exact Nat.lt_of_le_of_lt (show i ≤ 1000 by have : z.length = z.cps.size := rfl; omega) (by decide)
      · rw [upd_upd, decide_eq_true hm, rep_succ]
    · rintro H3 rfl
      refine ⟨Da, _, rfl, SqL.of upd_same, ?_⟩
      rw [all_true]
      exact q _ (same_new nD)
def spIsKey (K : PySem.W.Frag) : Sp := fun vs H Q _ => ∃ (x : V) (a : Addr), vs = [x, .ref a] ∧ ((∃ z : Str, x = .str z ∧ ((∃ l : List Str, (SqL K H a (l.map V.str) ∨ SqT K H a (l.map V.str)) ∧ Q (.bl (decide (z ∈ l))) H) ∨ (∃ kvs, Rd H a (.dK kvs) ∧ Q (.bl (valV kvs (Sum.inr z)).isSome) H))) ∨
  (∃ t, TyX K H x t ∧ PySem.W.kitOne K t (.type "str") = some false ∧ Q (.bl false) H))
theorem ok_is_key {f : Addr} {fd : FuncData} (D : Df K mg "is_key" s_is_key f fd ["name", "table"]) (T : Nms mg) : FnOk P w K mg base CX0 1 f fd ["name", "table"] (spIsKey K) := by
  refine D.F.ok sc_is_key (fun vs H Q E h => ?_) (fun cdv A outer s H vs Q E hr h => ?_)
  · obtain ⟨z, a, rfl, _⟩ := h
    rfl
  · obtain ⟨x, a, rfl, h⟩ := h
    have hu := hu_of hr
    refine ⟨_, (pss_one (ps_ret (pe_and (pe_callB call_isi (by rfl) T.n_isinstance (by decide +kernel) (pa_cons (pv 0) (pa_cons (pe_bltn (v := .ty "str") (by rfl) T.n_str (by decide +kernel) rfl) pa_nil))) (pe_one (pe_cmpR (op_in_any hu) (pv 0) (pv 1) (by rfl)))))), ?_⟩
    rcases h with ⟨z, rfl, h⟩ | ⟨t, ht, hk, q⟩
    · refine ⟨.str z, rfl, _, _, _, _, true, rfl, .ty "str", .base (.str z), kit_ty (by decide +kernel), true, rfl, iteT ?_⟩
      rcases h with ⟨l, hl, q⟩ | ⟨kvs, hk, q⟩
      · refine ⟨.str z, rfl, .ref a, rfl, .inl ⟨a, _, rfl, hl, rfl, flat_map l, ?_⟩⟩
        rw [inV_strs]
        exact q
      · exact ⟨.str z, rfl, .ref a, rfl, .inr ⟨a, _, rfl, .inl ⟨kvs, .inr z, hk, rfl, rfl⟩, q⟩⟩
    · exact ⟨x, rfl, _, _, _, _, false, rfl, .ty "str", ht, hk, false, rfl, iteF q⟩
end
end NW
namespace NW
open PySem PySem.Spec PyProof.Rows L2
theorem same_unlock {H H' : Hp} {d : Addr} {u : HO} {od : Obj} (e : H d = some u) (x : Same (upd H d (.frz od u)) H') : Same H (upd H' d u) := fun b o h => by
  by_cases n : b = d
  · subst n
    rw [e] at h
    cases h
    exact upd_same
  · rw [upd_ne n]
    exact x b o (by rw [upd_ne n]; exact h)
/-- all of a comprehension's items are True, and nothing that stood changes -/
theorem lc_all {J : It} {n j : Nat} {G : Hp → Prop} {Y : Nat → Hp → V → Hp → Prop} (w : Walk J n G Y) {te : TE} {vs : List Nat} {σ : L2.St} {H1 : Hp} {Da : Addr} {Qd : Hp → Prop} (Itm : Nat → V → Prop)
    (hY : ∀ i H x H', i < n → Y i H x H' → H' = H ∧ Itm i x) (hG : ∀ H, Same H1 H → G H) (nD : H1 Da = none) (hn : n ≤ 1000) (hw : ∀ x, wipe ((wipe σ vs).set j (some x)) vs = wipe σ vs)
    (hs : ∀ i x H (Q : VK), i < n → Itm i x → Same H1 H → (∀ H4, Same H H4 → Q (.bl true) H4) → te ((wipe σ vs).set j (some x)) H Q)
    (hd : ∀ H, Same H1 H → H Da = some (.lst ((List.replicate n true).map V.bl)) → Qd H) :
    ∃ W : Nat → Nat → Hp → Prop, (∃ m, W 0 m (upd H1 Da (.lst []))) ∧ ∀ i m H, W i m H →
      (J.stop i H ∧ Qd H) ∨ (J.go i H ∧ ∃ Nx : Hp → Prop, (∀ H', Nx H' → ∃ m', m' < m ∧ W (i + 1) m' H') ∧ ∀ x H', J.yld i H x H' → gName j x (wipe σ vs) H' fun σ2 H2 => wipe σ2 vs = wipe σ vs ∧ tYes σ2 H2 fun b H3 =>
        if b = true then te σ2 H3 fun y H4 => ∃ acc, H4 Da = some (.lst acc) ∧ acc.length < sizeLine ∧ Nx (upd H4 Da (.lst (acc ++ [y]))) else Nx H3) := by
  refine lc_it w (fun i H' => Same H1 H' ∧ H' Da = some (.lst ((List.replicate i true).map V.bl))) ⟨same_new nD, upd_same⟩ (fun i H _ p => hG H p.1) ?_ (fun H p => hd H p.1 p.2)
  rintro i x H H' hi ⟨sm, e⟩ y
  obtain ⟨rfl, it⟩ := hY i H x H' hi y
  refine ⟨hw x, lcT (hs i x _ _ hi it sm fun H4 s4 => ⟨_, s4 _ _ e, ?_, same_upd (sm.trans s4) nD, ?_⟩)⟩
  · rw [List.length_map, List.length_replicate]
    exact Nat.lt_of_le_of_lt (show i ≤ 1000 by omega) (by decide)
  · rw [upd_same, rep_succ]
end NW
namespace NW
open PySem PySem.Spec PyProof.Rows L2
open TL (tl)
abbrev s_is_table : Stmt := topS 27
abbrev N_is_table : List Str := ["table", "least", "most", "taken", "name"]
theorem sc_is_table : FnScope N_is_table ["table", "least", "most", "taken"] (defScope s_is_table) := ⟨rfl, rfl, rfl, by decide +kernel, rfl, by decide +kernel, by decide +kernel⟩
abbrev s_is_choice : Stmt := topS 28
abbrev N_is_choice : List Str := ["names", "table", "name"]
theorem sc_is_choice : FnScope N_is_choice ["names", "table"] (defScope s_is_choice) := ⟨rfl, rfl, rfl, by decide +kernel, rfl, by decide +kernel, by decide +kernel⟩
section
variable {P : Program} {w : World} {K : PySem.W.Frag} {mg : Str → Option Value} {base : Heap}
def spIsTable (K : PySem.W.Frag) : Sp := fun vs H Q _ => ∃ (t tk : Addr) (kvs : List (Key × V)) (ns ts : List Str) (lo hi : Int), vs = [.ref t, .int lo, .int hi, .ref tk] ∧ H t = some (.dK kvs) ∧ kvs.map (·.1) = ns.map Sum.inr ∧
  (∀ z ∈ ns, IsName z ∧ z ∉ ts) ∧ lo ≤ ns.length ∧ ns.length ≤ hi ∧ ns.length ≤ 1000 ∧ (SqL K H tk (ts.map V.str) ∨ SqT K H tk (ts.map V.str)) ∧ ∀ H', Same H H' → Q (.bl true) H'
theorem sq_lock {H : Hp} {t tk : Addr} {kvs : List (Key × V)} {od : Obj} {xs : List V} (e : H t = some (.dK kvs)) (h : SqL K H tk xs ∨ SqT K H tk xs) : SqL K (upd H t (.frz od (.dK kvs))) tk xs ∨ SqT K (upd H t (.frz od (.dK kvs))) tk xs := by
  have one : ∀ {u : HO}, (u = .lst xs ∨ u = .tup xs) → Rd H tk u → Rd (upd H t (.frz od (.dK kvs))) tk u := by
    intro u hu h
    have n : tk ≠ t := by
      rintro rfl
      rcases h with h | ⟨o, h⟩
      · rw [e] at h
        rcases hu with rfl | rfl <;> cases h
      · rw [e] at h
        cases h
    rcases h with h | ⟨o, h⟩
    · exact .inl (by rw [upd_ne n]; exact h)
    · exact .inr ⟨o, by rw [upd_ne n]; exact h⟩
  rcases h with (h | h) | (h | h)
  · exact .inl (.inl (one (.inl rfl) h))
  · exact .inl (.inr h)
  · exact .inr (.inl (one (.inr rfl) h))
  · exact .inr (.inr h)
theorem sq_same {H H' : Hp} {tk : Addr} {xs : List V} (x : Same H H') (h : SqL K H tk xs ∨ SqT K H tk xs) : SqL K H' tk xs ∨ SqT K H' tk xs := by
  rcases h with h | h
  · exact .inl (x.seq h)
  · rcases h with (h | ⟨o, h⟩) | h
    · exact .inr (.inl (.inl (x _ _ h)))
    · exact .inr (.inl (.inr ⟨o, x _ _ h⟩))
    · exact .inr (.inr h)
theorem ok_is_table {f f1 : Addr} {fd fd1 : FuncData} (D : Df K mg "is_table" s_is_table f fd ["table", "least", "most", "taken"]) (D_is_name : Df K mg "is_name" s_is_name f1 fd1 ["word"]) (T : Nms mg) (C : Cst K mg) : FnOk P w K mg base CX0 2 f fd ["table", "least", "most", "taken"] (spIsTable K) := by
  have G_is_name : FnOk P w K mg base CX0 1 f1 fd1 ["word"] spIsName := ok_is_name D_is_name T C
  refine D.F.ok sc_is_table (fun vs H Q E h => ?_) (fun cdv A outer s H vs Q E hr h => ?_)
  · obtain ⟨t, tk, kvs, ns, ts, lo, hi, rfl, _⟩ := h
    rfl
  · obtain ⟨t, tk, kvs, ns, ts, lo, hi, rfl, ht, hk, hz, h0, h1, h3, htk, q⟩ := h
    have hl : kvs.length = ns.length := by
      have e := congrArg List.length hk
      rw [List.length_map, List.length_map] at e
      exact e
    refine ⟨_, (pss_cons (ps_if (PW.pt (pw_or (pt_not (pt_val (pe_callB call_isi (by rfl) T.n_isinstance (by decide +kernel) (pa_cons (pv 0) (pa_cons (pe_bltn (v := .ty "dict") (by rfl) T.n_dict (by decide +kernel) rfl) pa_nil))))) (pw_or1 (pt_not (pt_chain op_le op_le (pv 1) (pe_callB call_lenD (by rfl) T.n_len (by decide +kernel) (pa_cons (pv 0) pa_nil)) (pv 2))))))
       (pss_one (ps_ret pe_bl))
       pss_nil)
      (pss_one (ps_ret (pe_callB (cr_all rfl) (by rfl) T.n_all (by decide +kernel) (pa_cons (pe_lock (pe_lc (own := [("name", 4)]) (g := (gName 4)) (tt := tYes) rfl sc_is_table.nd (pi_keys (pv 0)) (blkOk_by (own := [("name", 4)]) (N := N_is_table) (sc := defScope s_is_table) (by decide +kernel)) (fun _ _ _ _ _ => (pg_name (i := 4) sc_is_table.nd rfl (.inl rfl))) (fun _ _ _ _ _ => pts_nil) (fun _ _ _ _ _ => (pe_and (pe_call G_is_name (hr.mono (by decide)) (by rfl) D_is_name.g D_is_name.F.kp D_is_name.b .nil pass0 (pa_cons (pv 4) pa_nil)) (pe_one (pe_cmpR (op_notIn_seqK K) (pv 4) (pv 3) (by rfl))))))) pa_nil))))), ?_⟩
    refine ⟨.ref t, rfl, _, _, _, _, true, rfl, .ty "dict", .base (.dK ht), kit_ty (by decide +kernel), true, rfl, iteF ?_⟩
    refine ⟨.int lo, rfl, .ref t, rfl, t, kvs, rfl, ht, _, _, rfl, rfl, true, blT (by omega), iteT ⟨.int hi, rfl, _, _, rfl, rfl, true, blT (by omega), iteF ?_⟩⟩
    refine ⟨t, .dK kvs, ht, trivial, fun od => ⟨.ref t, rfl, t, od, rfl, .inl ⟨kvs, upd_same, fun Da nD => ?_⟩⟩⟩
    refine lc_all walk_keys (fun i x => ∃ z, ns[i]? = some z ∧ x = .str z) ?_ (fun H sm => sm _ _ upd_same) nD (by omega) (fun _ => rfl) ?_ ?_
    · rintro i H x H' hi ⟨rfl, k, v, e, rfl⟩
      have e2 : (kvs.map (·.1))[i]? = some k := by rw [List.getElem?_map, e]; rfl
      rw [hk, List.getElem?_map] at e2
      cases e3 : ns[i]? with
      | none => rw [e3] at e2; cases e2
      | some z =>
        rw [e3] at e2
        cases e2
        exact ⟨rfl, z, rfl, rfl⟩
    · rintro i x H2 Q2 hi ⟨z, ez, rfl⟩ sm k
      have hz2 := hz z (List.mem_of_getElem? ez)
      refine ⟨.str z, rfl, z, rfl, hz2.1, fun H3 s3 => ⟨true, rfl, iteT ?_⟩⟩
      refine ⟨.str z, rfl, .ref tk, rfl, tk, _, rfl, sq_same s3 (sq_same sm (sq_lock ht htk)), rfl, flat_map ts, ?_⟩
      rw [inV_strs, decide_eq_false hz2.2]
      exact k _ s3
    · intro H2 sm e2
      refine ⟨sm _ _ upd_same, Da, List.replicate kvs.length true, rfl, SqL.of ?_, ?_⟩
      · rw [upd_ne (show Da ≠ t from fun z => by rw [z, upd_same] at nD; cases nD)]
        exact e2
      · rw [all_true]
        exact q _ (same_unlock ht sm)
def spIsChoice (K : PySem.W.Frag) : Sp := fun vs H Q _ => ∃ (a t : Addr) (kvs : List (Key × V)) (zs : List Str), vs = [.ref a, .ref t] ∧ H a = some (.tup (zs.map V.str)) ∧ H t = some (.dK kvs) ∧
  zs.Nodup ∧ zs.length ≤ 1000 ∧ (∀ z ∈ zs, (valV kvs (Sum.inr z)).isSome = true) ∧ ∀ H', Same H H' → Q (.bl true) H'
theorem ok_is_choice {f f1 : Addr} {fd fd1 : FuncData} (D : Df K mg "is_choice" s_is_choice f fd ["names", "table"]) (D_is_key : Df K mg "is_key" s_is_key f1 fd1 ["name", "table"]) (T : Nms mg) : FnOk P w K mg base CX0 2 f fd ["names", "table"] (spIsChoice K) := by
  have G_is_key : FnOk P w K mg base CX0 1 f1 fd1 ["name", "table"] (spIsKey K) := ok_is_key D_is_key T
  refine D.F.ok sc_is_choice (fun vs H Q E h => ?_) (fun cdv A outer s H vs Q E hr h => ?_)
  · obtain ⟨a, t, kvs, zs, rfl, _⟩ := h
    rfl
  · obtain ⟨a, t, kvs, zs, rfl, ha, ht, hnd, hln, hin, q⟩ := h
    refine ⟨_, (pss_cons (ps_if (PW.pt (pw_or (pt_not (pt_val (pe_callB call_isi (by rfl) T.n_isinstance (by decide +kernel) (pa_cons (pv 0) (pa_cons (pe_bltn (v := .ty "tuple") (by rfl) T.n_tuple (by decide +kernel) rfl) pa_nil))))) (pw_or1 (pt_not (pt_val (pe_callB (cr_all rfl) (by rfl) T.n_all (by decide +kernel) (pa_cons (pe_lc (own := [("name", 2)]) (g := (gName 2)) (tt := tYes) rfl sc_is_choice.nd (pi_tup (pv 0)) (blkOk_by (own := [("name", 2)]) (N := N_is_choice) (sc := defScope s_is_choice) (by decide +kernel)) (fun _ _ _ _ _ => (pg_name (i := 2) sc_is_choice.nd rfl (.inl rfl))) (fun _ _ _ _ _ => pts_nil) (fun _ _ _ _ _ => (pe_call G_is_key (hr.mono (by decide)) (by rfl) D_is_key.g D_is_key.F.kp D_is_key.b .nil pass0 (pa_cons (pv 2) (pa_cons (pv 1) pa_nil))))) pa_nil)))))))
       (pss_one (ps_ret pe_bl))
       pss_nil)
      (pss_one (ps_ret (pe_cmpR op_eq (pe_lenSetN rfl (by rfl) T.n_len (by rfl) T.n_set (pv 0)) (pe_callB call_len_seq (by rfl) T.n_len (by decide +kernel) (pa_cons (pv 0) pa_nil)) (nomark _))))), ?_⟩
    refine ⟨.ref a, rfl, _, _, _, _, true, rfl, .ty "tuple", .base (.tup ha), kit_ty (by decide +kernel), true, rfl, iteF ?_⟩
    refine ⟨.ref a, rfl, a, rfl, ⟨_, .inl (.inl ha)⟩, fun Da nD => ?_⟩
    refine lc_all (walk_tup (xs := zs.map V.str)) (fun i x => ∃ z, zs[i]? = some z ∧ x = .str z) ?_ (fun H sm => .inl (.inl (sm _ _ ha))) nD (by rw [List.length_map]; exact hln) (fun _ => rfl) ?_ ?_
    · rintro i H x H' hi ⟨rfl, e⟩
      rw [List.getElem?_map] at e
      cases e3 : zs[i]? with
      | none => rw [e3] at e; cases e
      | some z =>
        rw [e3] at e
        cases e
        exact ⟨rfl, z, rfl, rfl⟩
    · rintro i x H2 Q2 hi ⟨z, ez, rfl⟩ sm k
      refine ⟨.str z, rfl, .ref t, rfl, .str z, t, rfl, .inl ⟨z, rfl, .inr ⟨kvs, .inl (sm _ _ ht), ?_⟩⟩⟩
      rw [hin z (List.mem_of_getElem? ez)]
      exact k _ (Same.refl _)
    · intro H2 sm e2
      refine ⟨Da, List.replicate (zs.map V.str).length true, rfl, SqL.of e2, true, ?_, iteF ?_⟩
      · rw [all_true]
      have ha2 : SqT K H2 a (zs.map V.str) := .inl (.inl (sm _ _ ha))
      refine ⟨.ref a, rfl, a, zs, rfl, ha2, hnd, hln, .ref a, rfl, a, _, rfl, .inr ha2, rfl, ?_⟩
      rw [List.length_map, decide_eq_true rfl]
      exact q _ sm
end
end NW
namespace NW
open PySem PySem.Spec PyProof.Rows L2
open TL (tl)
abbrev s_is_shape : Stmt := topS 15
abbrev N_is_shape : List Str := ["shape", "bases", "room", "outer"]
theorem sc_is_shape : FnScope N_is_shape ["shape", "bases", "room", "outer"] (defScope s_is_shape) := ⟨rfl, rfl, rfl, by decide +kernel, rfl, by decide +kernel, by decide +kernel⟩
/-- a def with two defaults -/
structure DfS (K : PySem.W.Frag) (mg : Str → Option Value) (f : Addr) (fd : FuncData) : Prop where
  F : FunD K "is_shape" "is_shape" (defArgs s_is_shape) (defBody s_is_shape) (defScope s_is_shape) [.int 4, .str ""] [] f fd
  g : mg "is_shape" = some (.ref f)
  b4 : Binds K fd ["shape", "bases", "room", "outer"] []
  b2 : ∃ ds, Vals [V.int 4, V.str ""] ds ∧ Binds K fd ["shape", "bases", "room", "outer"] ds
section
variable {P : Program} {w : World} {K : PySem.W.Frag} {mg : Str → Option Value} {base : Heap}
def spIsShape (K : PySem.W.Frag) (n : Nat) : Sp := fun vs H Q _ => ∃ (v : V) (bs : Addr) (l : List Str) (o : Str) (s : Shp), vs = [v, .ref bs, .int n, .str o] ∧ ShAt H v s ∧ okS l n (decide (o = "sure")) s ∧ SqL K H bs (l.map V.str) ∧ Q (.bl true) H
theorem inW_sure : inV (.str "sure") [.str "list", .str "sure"] = true := by decide +kernel
theorem inW_list : inV (.str "list") [.str "list", .str "sure"] = true := by decide +kernel
theorem list_sure : ¬ (V.str "list" = V.str "sure") := by decide +kernel
theorem ok_is_shape {f : Addr} {fd : FuncData} (D : DfS K mg f fd) (T : Nms mg) (C : Cst K mg) : ∀ n : Nat, FnOk P w K mg base CX0 (n + 1) f fd ["shape", "bases", "room", "outer"] (spIsShape K n) := by
  obtain ⟨wa, g_W, hW⟩ := C.WRAPPERS
  intro n
  induction n with
  | zero =>
    refine D.F.ok sc_is_shape (fun vs H Q E h => ?_) (fun cdv A outer s H vs Q E hr h => ?_)
    · obtain ⟨v, bs, l, o, s, rfl, _⟩ := h
      rfl
    · obtain ⟨v, bs, l, o, s, rfl, hv, hok, hb, q⟩ := h
      cases s with
      | sure s => exact hok.elim
      | list s => exact hok.elim
      | base z =>
        obtain rfl := hv
        refine ⟨_, pss_cons (ps_if (pt_not (pt_val (pe_callB call_isi (by rfl) T.n_isinstance (by decide +kernel) (pa_cons (pv 0) (pa_cons (pe_bltn (v := .ty "tuple") (by rfl) T.n_tuple (by decide +kernel) rfl) pa_nil)))))
         (pss_one (ps_ret (pe_and (pe_callB call_isi (by rfl) T.n_isinstance (by decide +kernel) (pa_cons (pv 0) (pa_cons (pe_bltn (v := .ty "str") (by rfl) T.n_str (by decide +kernel) rfl) pa_nil))) (pe_one (pe_cmpR op_in_seq (pv 0) (pv 1) (by rfl))))))
         pss_nil) (pss_cons ps_never (pss_cons ps_never (pss_one ps_never))), ?_⟩
        refine ⟨.str z, rfl, _, _, _, _, false, rfl, .ty "tuple", .base (.str z), kit_ty (by decide +kernel), false, rfl, iteT ?_⟩
        refine ⟨.str z, rfl, _, _, _, _, true, rfl, .ty "str", .base (.str z), kit_ty (by decide +kernel), true, rfl, iteT ⟨.str z, rfl, .ref bs, rfl, bs, _, rfl, .inl hb, rfl, flat_map l, ?_⟩⟩
        rw [inV_strs, decide_eq_true (show z ∈ l from hok)]
        exact q
  | succ n ih =>
    have G_is_shape := ih
    refine D.F.ok sc_is_shape (fun vs H Q E h => ?_) (fun cdv A outer s H vs Q E hr h => ?_)
    · obtain ⟨v, bs, l, o, s, rfl, _⟩ := h
      rfl
    · obtain ⟨v, bs, l, o, s, rfl, hv, hok, hb, q⟩ := h
      refine ⟨_, (pss_cons (ps_if (pt_not (pt_val (pe_callB call_isi (by rfl) T.n_isinstance (by decide +kernel) (pa_cons (pv 0) (pa_cons (pe_bltn (v := .ty "tuple") (by rfl) T.n_tuple (by decide +kernel) rfl) pa_nil)))))
         (pss_one (ps_ret (pe_and (pe_callB call_isi (by rfl) T.n_isinstance (by decide +kernel) (pa_cons (pv 0) (pa_cons (pe_bltn (v := .ty "str") (by rfl) T.n_str (by decide +kernel) rfl) pa_nil))) (pe_one (pe_cmpR op_in_seq (pv 0) (pv 1) (by rfl))))))
         pss_nil)
        (pss_cons (ps_if (PW.pt (pw_or (pt_cmpR op_eq (pv 2) pe_int (nomark _)) (pw_or (pt_cmpR op_ne (pe_callB call_len_seq (by rfl) T.n_len (by decide +kernel) (pa_cons (pv 0) pa_nil)) pe_int (nomark _)) (pw_or1 (pt_cmpR op_notIn_seq (pe_ix ix_tup (pv 0) pe_int (fun _ _ => rfl)) (pe_glob (v := .ref wa) (by rfl) g_W rfl) (by rfl))))))
         (pss_one (ps_ret pe_bl))
         pss_nil)
        (pss_cons (ps_if (PW.pt (pw_and (pt_cmpR op_eq (pe_ix ix_tup (pv 0) pe_int (fun _ _ => rfl)) pe_str (nomark _)) (pw_and1 (pt_cmpR op_eq (pv 3) pe_str (nomark _)))))
         (pss_one (ps_ret pe_bl))
         pss_nil)
        (pss_one (ps_ret (pe_call G_is_shape (hr.mono (by omega)) (by rfl) D.g D.F.kp D.b4 .nil pass0 (pa_cons (pe_ix ix_tup (pv 0) pe_int (fun _ _ => rfl)) (pa_cons (pv 1) (pa_cons (pe_op op_sub (pv 2) pe_int) (pa_cons (pe_ix ix_tup (pv 0) pe_int (fun _ _ => rfl)) pa_nil)))))))))), ?_⟩
      have n0 : ¬ (V.int ((n + 1 : Nat) : Int) = V.int 0) := fun e => by
        have := V.int.inj e
        omega
      cases s with
      | base z =>
        obtain rfl := hv
        refine ⟨.str z, rfl, _, _, _, _, false, rfl, .ty "tuple", .base (.str z), kit_ty (by decide +kernel), false, rfl, iteT ?_⟩
        refine ⟨.str z, rfl, _, _, _, _, true, rfl, .ty "str", .base (.str z), kit_ty (by decide +kernel), true, rfl, iteT ⟨.str z, rfl, .ref bs, rfl, bs, _, rfl, .inl hb, rfl, flat_map l, ?_⟩⟩
        rw [inV_strs, decide_eq_true (show z ∈ l from hok)]
        exact q
      | sure s =>
        obtain ⟨a, u, rfl, ha, hu⟩ := hv
        obtain ⟨ho, hok⟩ := hok
        have no : ¬ (V.str o = V.str "sure") := fun e => of_decide_eq_false ho (V.str.inj e)
        have hT : SqT K H a [.str "sure", u] := .inl (.inl ha)
        refine ⟨.ref a, rfl, _, _, _, _, true, rfl, .ty "tuple", .base (.tup ha), kit_ty (by decide +kernel), true, rfl, iteF ?_⟩
        refine ⟨_, rfl, rfl, false, blF n0, iteF ⟨.ref a, rfl, a, _, rfl, .inr hT, rfl, false, blNF rfl, iteF ⟨.ref a, rfl, a, _, 0, _, rfl, rfl, hT, atI_nat (j := 0) rfl, wa, _, rfl, .inr (hW H), rfl, rfl, false, ?_, iteF ?_⟩⟩⟩
        · show V.bl (!inV (.str "sure") [.str "list", .str "sure"]) = V.bl false
          rw [inW_sure]
          rfl
        refine ⟨.ref a, rfl, a, _, 0, _, rfl, rfl, hT, atI_nat (j := 0) rfl, rfl, true, blT rfl, iteT ⟨.str o, rfl, rfl, false, blF no, iteF ?_⟩⟩
        refine ⟨.ref a, rfl, a, _, 1, u, rfl, rfl, hT, atI_nat (j := 1) rfl, .ref bs, rfl, _, rfl, _, _, rfl, rfl, .ref a, rfl, a, _, 0, _, rfl, rfl, hT, atI_nat (j := 0) rfl, ?_⟩
        refine ⟨u, bs, l, "sure", s, ?_, hu, ?_, hb, q⟩
        · show [u, V.ref bs, V.int (((n + 1 : Nat) : Int) - 1), V.str "sure"] = [u, V.ref bs, V.int (n : Int), V.str "sure"]
          rw [show (((n + 1 : Nat) : Int) - 1) = (n : Int) by omega]
        · rw [decide_eq_true rfl]
          exact hok
      | list s =>
        obtain ⟨a, u, rfl, ha, hu⟩ := hv
        have hT : SqT K H a [.str "list", u] := .inl (.inl ha)
        refine ⟨.ref a, rfl, _, _, _, _, true, rfl, .ty "tuple", .base (.tup ha), kit_ty (by decide +kernel), true, rfl, iteF ?_⟩
        refine ⟨_, rfl, rfl, false, blF n0, iteF ⟨.ref a, rfl, a, _, rfl, .inr hT, rfl, false, blNF rfl, iteF ⟨.ref a, rfl, a, _, 0, _, rfl, rfl, hT, atI_nat (j := 0) rfl, wa, _, rfl, .inr (hW H), rfl, rfl, false, ?_, iteF ?_⟩⟩⟩
        · show V.bl (!inV (.str "list") [.str "list", .str "sure"]) = V.bl false
          rw [inW_list]
          rfl
        refine ⟨.ref a, rfl, a, _, 0, _, rfl, rfl, hT, atI_nat (j := 0) rfl, rfl, false, blF list_sure, iteF ?_⟩
        refine ⟨.ref a, rfl, a, _, 1, u, rfl, rfl, hT, atI_nat (j := 1) rfl, .ref bs, rfl, _, rfl, _, _, rfl, rfl, .ref a, rfl, a, _, 0, _, rfl, rfl, hT, atI_nat (j := 0) rfl, ?_⟩
        refine ⟨u, bs, l, "list", s, ?_, hu, ?_, hb, q⟩
        · show [u, V.ref bs, V.int (((n + 1 : Nat) : Int) - 1), V.str "list"] = [u, V.ref bs, V.int (n : Int), V.str "list"]
          rw [show (((n + 1 : Nat) : Int) - 1) = (n : Int) by omega]
        · rw [decide_eq_false (fun e => list_sure (congrArg V.str e))]
          exact hok
end
end NW
namespace NW
open PySem PySem.Spec PyProof.Rows L2
open TL (tl)
abbrev s_is_fields : Stmt := topS 29
abbrev N_is_fields : List Str := ["fields", "most", "bases", "name"]
theorem sc_is_fields : FnScope N_is_fields ["fields", "most", "bases"] (defScope s_is_fields) := ⟨rfl, rfl, rfl, by decide +kernel, rfl, by decide +kernel, by decide +kernel⟩
abbrev s_is_kind : Stmt := topS 30
abbrev N_is_kind : List Str := ["worth", "faces", "bases"]
theorem sc_is_kind : FnScope N_is_kind ["worth", "faces", "bases"] (defScope s_is_kind) := ⟨rfl, rfl, rfl, by decide +kernel, rfl, by decide +kernel, by decide +kernel⟩
abbrev s_has_fields : Stmt := topS 32
abbrev N_has_fields : List Str := ["holder", "fields", "field"]
theorem sc_has_fields : FnScope N_has_fields ["holder", "fields"] (defScope s_has_fields) := ⟨rfl, rfl, rfl, by decide +kernel, rfl, by decide +kernel, by decide +kernel⟩
abbrev s_is_face : Stmt := topS 31
abbrev N_is_face : List Str := ["name", "fields", "kinds", "bases", "holders", "kind", "holder"]
theorem sc_is_face : FnScope N_is_face ["name", "fields", "kinds", "bases"] (defScope s_is_face) := ⟨rfl, rfl, rfl, by decide +kernel, rfl, by decide +kernel, by decide +kernel⟩
abbrev s_is_union : Stmt := topS 33
abbrev N_is_union : List Str := ["worth", "kinds"]
theorem sc_is_union : FnScope N_is_union ["worth", "kinds"] (defScope s_is_union) := ⟨rfl, rfl, rfl, by decide +kernel, rfl, by decide +kernel, by decide +kernel⟩
/-! ### shapes as data -/
def shD : Shp → PyData
  | .base z => .str z
  | .sure s => .tuple [.str "sure", shD s]
  | .list s => .tuple [.str "list", shD s]
theorem tx_sure : PyData.strOk "sure" = true := by decide +kernel
theorem tx_list : PyData.strOk "list" = true := by decide +kernel
theorem shD_lay {l : List Str} (tx : ∀ z ∈ l, PyData.strOk z = true) : ∀ {s : Shp} {n : Nat} {o : Bool}, okS l n o s → (shD s).canLay0 = true := by
  intro s
  induction s with
  | base z =>
    intro n o h
    simp only [shD, PyData.canLay0]
    exact tx z (by cases n <;> exact h)
  | sure s ih =>
    intro n o h
    cases n with
    | zero => exact h.elim
    | succ n => simp [shD, PyData.canLay0, PyData.canLayAll0, ih h.2, tx_sure]
  | list s ih =>
    intro n o h
    cases n with
    | zero => exact h.elim
    | succ n => simp [shD, PyData.canLay0, PyData.canLayAll0, ih (show okS l n false s from h), tx_list]
def Shp.deep : Shp → Nat
  | .base _ => 0
  | .sure s => s.deep + 1
  | .list s => s.deep + 1
section
variable {P : Program} {w : World} {K : PySem.W.Frag} {mg : Str → Option Value} {base : Heap}

theorem shD_dp {H : Hp} : ∀ {s : Shp} {v : V}, ShAt H v s → Dp K H v (shD s) := by
  intro s
  induction s with
  | base z => rintro v rfl; exact .str z
  | sure s ih =>
    rintro v ⟨a, u, rfl, ha, hu⟩
    exact .tup (.inl (.inl ha)) (.cons (.str _) (.cons (ih hu) .nil))
  | list s ih =>
    rintro v ⟨a, u, rfl, ha, hu⟩
    exact .tup (.inl (.inl ha)) (.cons (.str _) (.cons (ih hu) .nil))
theorem okS_deep {l : List Str} : ∀ {n : Nat} {o : Bool} {s : Shp}, okS l n o s → s.deep ≤ n := by
  intro n o s
  induction s generalizing n o with
  | base z => intro _; exact Nat.zero_le _
  | sure s ih =>
    intro h
    cases n with
    | zero => exact h.elim
    | succ n => exact Nat.succ_le_succ (ih h.2)
  | list s ih =>
    intro h
    cases n with
    | zero => exact h.elim
    | succ n => exact Nat.succ_le_succ (ih (show okS l n false s from h))
theorem shD_deep : ∀ s : Shp, (shD s).depth ≤ s.deep + 1 := by
  intro s
  induction s with
  | base z => simp [shD, PyData.depth]
  | sure s ih => simp [shD, PyData.depth, PyData.depthAll, Shp.deep]; omega
  | list s ih => simp [shD, PyData.depth, PyData.depthAll, Shp.deep]; omega
theorem shD_ok {l : List Str} {o : Bool} {s : Shp} (tx : ∀ z ∈ l, PyData.strOk z = true) (h : okS l 4 o s) : SeqAt.shaped (shD s) = true := by
  have h1 := okS_deep h
  have h2 := shD_deep s
  exact Bool.and_eq_true_iff.mpr ⟨shD_lay tx h, decide_eq_true (by omega)⟩
/-! ### a dict that is walked -/
theorem sqL_put {H : Hp} {t tk : Addr} {kvs : List (Key × V)} {o : HO} {xs : List V} (e : H t = some (.dK kvs)) (h : SqL K H tk xs) : SqL K (upd H t o) tk xs := by
  rcases h with (h | ⟨o', h⟩) | h
  · exact .inl (.inl (by rw [upd_ne (ne_of h e (by intro z; cases z))]; exact h))
  · exact .inl (.inr ⟨o', by rw [upd_ne (ne_of h e (by intro z; cases z))]; exact h⟩)
  · exact .inr h
theorem rd_put {H : Hp} {a d : Addr} {kvs : List (Key × V)} {u : HO} {od : Obj} (e : H d = some u) (h : H a = some (.dK kvs)) : Rd (upd H d (.frz od u)) a (.dK kvs) := by
  by_cases n : a = d
  · subst n
    rw [e] at h
    cases h
    exact .inr ⟨od, upd_same⟩
  · exact .inl (by rw [upd_ne n]; exact h)
theorem rd_same {H H' : Hp} {a : Addr} {u : HO} (x : Same H H') (h : Rd H a u) : Rd H' a u := by
  rcases h with h | ⟨o, h⟩
  · exact .inl (x _ _ h)
  · exact .inr ⟨o, x _ _ h⟩
theorem fkv_keys (fs : List Fld) : (fkv fs).map (·.1) = (fs.map (·.1)).map Sum.inr := keys_map fs (·.1) (·.2.1)
theorem fkv_at {fs : List Fld} {i : Nat} {k : Key} {v : V} (e : (fkv fs)[i]? = some (k, v)) : ∃ f, fs[i]? = some f ∧ k = Sum.inr f.1 ∧ v = f.2.1 := by
  unfold fkv at e
  rw [List.getElem?_map] at e
  cases h : fs[i]? with
  | none => rw [h] at e; cases e
  | some f =>
    rw [h] at e
    cases e
    exact ⟨f, rfl, rfl, rfl⟩
theorem fkv_val {fs : List Fld} (nd : (fs.map (·.1)).Nodup) {f : Fld} (m : f ∈ fs) : valV (fkv fs) (Sum.inr f.1) = some f.2.1 := valV_map (f := fun f : Fld => f.1) (g := fun f => f.2.1) nd m
def spIsFields (K : PySem.W.Frag) : Sp := fun vs H Q _ => ∃ (d bs : Addr) (m : Nat) (fs : List Fld) (l : List Str), vs = [.ref d, .int m, .ref bs] ∧ FldAt H d fs ∧ FdsOk l fs m ∧ m ≤ 1000 ∧ SqL K H bs (l.map V.str) ∧ ∀ H', Same H H' → Q (.bl true) H'
theorem ok_is_fields {f f1 f2 : Addr} {fd fd1 fd2 : FuncData} (D : Df K mg "is_fields" s_is_fields f fd ["fields", "most", "bases"]) (D_is_table : Df K mg "is_table" s_is_table f1 fd1 ["table", "least", "most", "taken"])
    (D_is_shape : DfS K mg f2 fd2) (T : Nms mg) (C : Cst K mg) (G_is_table : FnOk P w K mg base CX0 2 f1 fd1 ["table", "least", "most", "taken"] (spIsTable K)) : FnOk P w K mg base CX0 6 f fd ["fields", "most", "bases"] (spIsFields K) := by
  have G_is_shape : FnOk P w K mg base CX0 5 f2 fd2 ["shape", "bases", "room", "outer"] (spIsShape K 4) := ok_is_shape D_is_shape T C 4
  obtain ⟨ds, rS, bS⟩ := D_is_shape.b2
  refine D.F.ok sc_is_fields (fun vs H Q E h => ?_) (fun cdv A outer s H vs Q E hr h => ?_)
  · obtain ⟨d, bs, m, fs, l, rfl, _⟩ := h
    rfl
  · obtain ⟨d, bs, m, fs, l, rfl, hf, ok, hm, hb, q⟩ := h
    have hu := hu_of hr
    refine ⟨_, (pss_cons (ps_if (pt_not (pt_val (pe_call G_is_table (hr.mono (by decide)) (by rfl) D_is_table.g D_is_table.F.kp D_is_table.b .nil pass0 (pa_cons (pv 0) (pa_cons pe_int (pa_cons (pv 1) (pa_cons (pe_tup pa_nil) pa_nil)))))))
       (pss_one (ps_ret pe_bl))
       pss_nil)
      (pss_one (ps_ret (pe_callB (cr_all rfl) (by rfl) T.n_all (by decide +kernel) (pa_cons (pe_lock (pe_lc (own := [("name", 3)]) (g := (gName 3)) (tt := tYes) rfl sc_is_fields.nd (pi_keys (pv 0)) (blkOk_by (own := [("name", 3)]) (N := N_is_fields) (sc := defScope s_is_fields) (by decide +kernel)) (fun _ _ _ _ _ => (pg_name (i := 3) sc_is_fields.nd rfl (.inl rfl))) (fun _ _ _ _ _ => pts_nil) (fun _ _ _ _ _ => (pe_call G_is_shape (hr.mono (by decide)) (by rfl) D_is_shape.g D_is_shape.F.kp bS rS pass0 (pa_cons (pe_dget hu (pv 0) (pv 3) (fun _ _ => rfl)) (pa_cons (pv 2) pa_nil)))))) pa_nil))))), ?_⟩
    -- is_table(fields, 1, most, ())
    refine ⟨.ref d, rfl, .int m, rfl, Nat.zero_le _, fun p np => ?_⟩
    refine ⟨d, p, fkv fs, fs.map (·.1), [], 1, m, rfl, by rw [upd_ne (ne_of_none hf.at_ np)]; exact hf.at_, fkv_keys fs, fun z hz => ⟨?_, by simp⟩, ?_, ?_, ?_, .inr (.inl (.inl upd_same)), fun H1 s1 => ⟨true, rfl, iteF ?_⟩⟩
    · obtain ⟨x, hx, rfl⟩ := List.mem_map.mp hz
      exact ok.nm x hx
    · rw [List.length_map]; have := ok.n0; omega
    · rw [List.length_map]; have := ok.n1; omega
    · rw [List.length_map]; have := ok.n1; omega
    have sm1 : Same H H1 := (same_new np).trans s1
    have hf1 := hf.same sm1
    -- all([..])
    refine ⟨d, .dK (fkv fs), hf1.at_, trivial, fun od => ⟨.ref d, rfl, d, od, rfl, .inl ⟨fkv fs, upd_same, fun Da nD => ?_⟩⟩⟩
    have hfl : (fkv fs).length = fs.length := List.length_map ..
    refine lc_all walk_keys (fun i x => ∃ f, fs[i]? = some f ∧ x = .str f.1) ?_ (fun H sm => sm _ _ upd_same) nD (by rw [hfl]; have := ok.n1; omega) (fun _ => rfl) ?_ ?_
    · rintro i H x H' hi ⟨rfl, k, v, e, rfl⟩
      obtain ⟨f, ef, rfl, rfl⟩ := fkv_at e
      exact ⟨rfl, f, ef, rfl⟩
    · rintro i x H2 Q2 hi ⟨f, ef, rfl⟩ sm k
      have hm := List.mem_of_getElem? ef
      refine ⟨.ref d, rfl, .str f.1, rfl, d, f.2.1, rfl, .inl ⟨fkv fs, .inr f.1, .inr ⟨od, sm _ _ upd_same⟩, rfl, (fkv_val ok.nd hm).symm⟩, .ref bs, rfl, ?_⟩
      refine ⟨f.2.1, bs, l, "", f.2.2, rfl, ?_, ?_, sm.seq (sqL_put hf1.at_ (sm1.seq hb)), k _ (Same.refl _)⟩
      · exact ((hf1.sh f hm).gr (xs := []) (.inr ⟨_, hf1.at_⟩) Gr.box).same sm
      · rw [decide_eq_false (show ¬ (("" : Str) = "sure") by decide +kernel)]
        exact ok.sh f hm
    · intro H2 sm e2
      refine ⟨sm _ _ upd_same, Da, List.replicate (fkv fs).length true, rfl, SqL.of ?_, ?_⟩
      · rw [upd_ne (show Da ≠ d from fun z => by rw [z, upd_same] at nD; cases nD)]
        exact e2
      · rw [all_true]
        exact q _ (sm1.trans (same_unlock hf1.at_ sm))
def spIsKind (K : PySem.W.Frag) : Sp := fun vs H Q _ => ∃ (k : KRow) (ft bs : Addr) (kvs : List (Key × V)) (l : List Str), vs = [.ref k.t, .ref ft, .ref bs] ∧ k.At H ∧ H ft = some (.dK kvs) ∧ k.fcs.Nodup ∧ k.fcs.length ≤ 1000 ∧ (∀ z ∈ k.fcs, (valV kvs (Sum.inr z)).isSome = true) ∧
  FdsOk l k.fds 5 ∧ SqL K H bs (l.map V.str) ∧ ∀ H', Same H H' → Q (.bl true) H'
theorem ok_is_kind {f f1 f2 : Addr} {fd fd1 fd2 : FuncData} (D : Df K mg "is_kind" s_is_kind f fd ["worth", "faces", "bases"]) (D_is_choice : Df K mg "is_choice" s_is_choice f1 fd1 ["names", "table"])
    (D_is_fields : Df K mg "is_fields" s_is_fields f2 fd2 ["fields", "most", "bases"]) (T : Nms mg) (C : Cst K mg) (G_is_choice : FnOk P w K mg base CX0 2 f1 fd1 ["names", "table"] (spIsChoice K)) (G_is_fields : FnOk P w K mg base CX0 6 f2 fd2 ["fields", "most", "bases"] (spIsFields K)) :
    FnOk P w K mg base CX0 7 f fd ["worth", "faces", "bases"] (spIsKind K) := by
  obtain ⟨t5, g_M⟩ := C.MOST_KIND_FIELDS
  refine D.F.ok sc_is_kind (fun vs H Q E h => ?_) (fun cdv A outer s H vs Q E hr h => ?_)
  · obtain ⟨k, ft, bs, kvs, l, rfl, _⟩ := h
    rfl
  · obtain ⟨k, ft, bs, kvs, l, rfl, hk, hft, hnd, hln, hin, ok, hb, q⟩ := h
    refine ⟨_, (pss_cons (ps_if (PW.pt (pw_or (pt_not (pt_val (pe_callB call_isi (by rfl) T.n_isinstance (by decide +kernel) (pa_cons (pv 0) (pa_cons (pe_bltn (v := .ty "tuple") (by rfl) T.n_tuple (by decide +kernel) rfl) pa_nil))))) (pw_or1 (pt_cmpR op_ne (pe_callB call_len_seq (by rfl) T.n_len (by decide +kernel) (pa_cons (pv 0) pa_nil)) pe_int (nomark _)))))
       (pss_one (ps_ret pe_bl))
       pss_nil)
      (pss_one (ps_ret (pe_and (pe_call G_is_choice (hr.mono (by decide)) (by rfl) D_is_choice.g D_is_choice.F.kp D_is_choice.b .nil pass0 (pa_cons (pe_ix ix_tup (pv 0) pe_int (fun _ _ => rfl)) (pa_cons (pv 1) pa_nil))) (pe_one (pe_call G_is_fields (hr.mono (by decide)) (by rfl) D_is_fields.g D_is_fields.F.kp D_is_fields.b .nil pass0 (pa_cons (pe_ix ix_tup (pv 0) pe_int (fun _ _ => rfl)) (pa_cons (pe_glob (v := .int 5) (by rfl) g_M ⟨_, rfl⟩) (pa_cons (pv 2) pa_nil))))))))), ?_⟩
    have hT : SqT K H k.t [.ref k.fa, .ref k.da] := .inl (.inl hk.t)
    refine ⟨.ref k.t, rfl, _, _, _, _, true, rfl, .ty "tuple", .base (.tup hk.t), kit_ty (by decide +kernel), true, rfl, iteF ⟨.ref k.t, rfl, k.t, _, rfl, .inr hT, rfl, false, blNF rfl, iteF ?_⟩⟩
    refine ⟨.ref k.t, rfl, k.t, _, 0, _, rfl, rfl, hT, atI_nat (j := 0) rfl, .ref ft, rfl, k.fa, ft, kvs, k.fcs, rfl, hk.f, hft, hnd, hln, hin, fun H1 s1 => ⟨true, rfl, iteT ?_⟩⟩
    have hk1 := hk.same s1
    refine ⟨.ref k.t, rfl, k.t, _, 1, _, rfl, rfl, .inl (.inl hk1.t), atI_nat (j := 1) rfl, .ref bs, rfl, k.da, bs, 5, k.fds, l, rfl, hk1.d, ok, by decide, s1.seq hb, fun H2 s2 => q _ (s1.trans s2)⟩
def spHasFields : Sp := fun vs H Q _ => ∃ (h d : Addr) (hs fs : List Fld) (l : List Str) (n : Nat), vs = [.ref h, .ref d] ∧ FldAt H h hs ∧ FldAt H d fs ∧ (hs.map (·.1)).Nodup ∧ FdsOk l fs n ∧ n ≤ 1000 ∧ (∀ x ∈ fs, ∃ y ∈ hs, y.1 = x.1 ∧ y.2.2 = x.2.2) ∧ ∀ H', Same H H' → Q (.bl true) H'
theorem ok_has_fields {f : Addr} {fd : FuncData} (D : Df K mg "has_fields" s_has_fields f fd ["holder", "fields"]) (T : Nms mg) : FnOk P w K mg base CX0 1 f fd ["holder", "fields"] spHasFields := by
  refine D.F.ok sc_has_fields (fun vs H Q E h => ?_) (fun cdv A outer s H vs Q E hr h => ?_)
  · obtain ⟨h, d, hs, fs, l, n, rfl, _⟩ := h
    rfl
  · obtain ⟨h, d, hs, fs, l, n, rfl, hh, hf, hnd, ok, hn, hin, q⟩ := h
    have hu := hu_of hr
    refine ⟨_, (pss_one (ps_ret (pe_callB (cr_all rfl) (by rfl) T.n_all (by decide +kernel) (pa_cons (pe_lock (pe_lc (own := [("field", 2)]) (g := (gName 2)) (tt := tYes) rfl sc_has_fields.nd (pi_keys (pv 1)) (blkOk_by (own := [("field", 2)]) (N := N_has_fields) (sc := defScope s_has_fields) (by decide +kernel)) (fun _ _ _ _ _ => (pg_name (i := 2) sc_has_fields.nd rfl (.inl rfl))) (fun _ _ _ _ _ => pts_nil) (fun _ _ _ _ _ => (pe_and (pe_cmp (pc_din hu (pv 2) (pv 0)) rfl) (pe_one (pe_cmpR (op_eqDK K hr.units) (pe_dget hu (pv 0) (pv 2) (fun _ _ => rfl)) (pe_dget hu (pv 1) (pv 2) (fun _ _ => rfl)) (nomark _))))))) pa_nil)))), ?_⟩
    refine ⟨d, .dK (fkv fs), hf.at_, trivial, fun od => ⟨.ref d, rfl, d, od, rfl, .inl ⟨fkv fs, upd_same, fun Da nD => ?_⟩⟩⟩
    have hfl : (fkv fs).length = fs.length := List.length_map ..
    refine lc_all walk_keys (fun i x => ∃ f, fs[i]? = some f ∧ x = .str f.1) ?_ (fun H sm => sm _ _ upd_same) nD (by rw [hfl]; have := ok.n1; omega) (fun _ => rfl) ?_ ?_
    · rintro i H x H' hi ⟨rfl, k, v, e, rfl⟩
      obtain ⟨f, ef, rfl, rfl⟩ := fkv_at e
      exact ⟨rfl, f, ef, rfl⟩
    · rintro i x H2 Q2 hi ⟨f, ef, rfl⟩ sm k
      have hm := List.mem_of_getElem? ef
      obtain ⟨y, ym, y1, y2⟩ := hin f hm
      have rh : Rd H2 h (.dK (fkv hs)) := rd_same sm (rd_put hf.at_ hh.at_)
      have vy : valV (fkv hs) (Sum.inr f.1) = some y.2.1 := by rw [← y1]; exact fkv_val hnd ym
      have sh1 : ShAt H2 y.2.1 f.2.2 := by
        rw [← y2]
        exact ((hh.sh y ym).gr (xs := []) (.inr ⟨_, hf.at_⟩) Gr.box).same sm
      have sh2 : ShAt H2 f.2.1 f.2.2 := ((hf.sh f hm).gr (xs := []) (.inr ⟨_, hf.at_⟩) Gr.box).same sm
      refine ⟨.str f.1, rfl, .ref h, rfl, h, some y.2.1, rfl, .inl ⟨fkv hs, .inr f.1, rh, rfl, vy.symm⟩, true, rfl, iteT ?_⟩
      refine ⟨.ref h, rfl, .str f.1, rfl, h, y.2.1, rfl, .inl ⟨fkv hs, .inr f.1, rh, rfl, vy.symm⟩, .ref d, rfl, .str f.1, rfl, d, f.2.1, rfl, .inl ⟨fkv fs, .inr f.1, .inr ⟨od, sm _ _ upd_same⟩, rfl, (fkv_val ok.nd hm).symm⟩, ?_⟩
      refine ⟨shD f.2.2, shD f.2.2, shD_dp sh1, shD_dp sh2, shD_ok ok.tx (ok.sh f hm), shD_ok ok.tx (ok.sh f hm), ?_⟩
      rw [SeqAt.eqv_refl _ (shD_lay ok.tx (ok.sh f hm))]
      exact k _ (Same.refl _)
    · intro H2 sm e2
      refine ⟨sm _ _ upd_same, Da, List.replicate (fkv fs).length true, rfl, SqL.of ?_, ?_⟩
      · rw [upd_ne (show Da ≠ d from fun z => by rw [z, upd_same] at nD; cases nD)]
        exact e2
      · rw [all_true]
        exact q _ (same_unlock hf.at_ sm)
def spIsUnion : Sp := fun vs H Q _ => ∃ (a kt : Addr) (kvs : List (Key × V)) (ms : List Str), vs = [.ref a, .ref kt] ∧ H a = some (.tup (ms.map V.str)) ∧ H kt = some (.dK kvs) ∧ ms.Nodup ∧ 1 ≤ ms.length ∧ ms.length ≤ 4 ∧ (∀ z ∈ ms, (valV kvs (Sum.inr z)).isSome = true) ∧ ∀ H', Same H H' → Q (.bl true) H'
theorem ok_is_union {f f1 : Addr} {fd fd1 : FuncData} (D : Df K mg "is_union" s_is_union f fd ["worth", "kinds"]) (D_is_choice : Df K mg "is_choice" s_is_choice f1 fd1 ["names", "table"]) (T : Nms mg) (C : Cst K mg)
    (G_is_choice : FnOk P w K mg base CX0 2 f1 fd1 ["names", "table"] (spIsChoice K)) : FnOk P w K mg base CX0 3 f fd ["worth", "kinds"] spIsUnion := by
  obtain ⟨t4, g_M⟩ := C.MOST_UNION_KINDS
  refine D.F.ok sc_is_union (fun vs H Q E h => ?_) (fun cdv A outer s H vs Q E hr h => ?_)
  · obtain ⟨a, kt, kvs, ms, rfl, _⟩ := h
    rfl
  · obtain ⟨a, kt, kvs, ms, rfl, ha, hk, hnd, h1, h4, hin, q⟩ := h
    refine ⟨_, (pss_one (ps_ret (pe_and (pe_call G_is_choice (hr.mono (by decide)) (by rfl) D_is_choice.g D_is_choice.F.kp D_is_choice.b .nil pass0 (pa_cons (pv 0) (pa_cons (pv 1) pa_nil))) (pe_one (pe_chain op_le op_le pe_int (pe_callB call_len_seq (by rfl) T.n_len (by decide +kernel) (pa_cons (pv 0) pa_nil)) (pe_glob (v := .int 4) (by rfl) g_M ⟨_, rfl⟩)))))), ?_⟩
    refine ⟨.ref a, rfl, .ref kt, rfl, a, kt, kvs, ms, rfl, ha, hk, hnd, by omega, hin, fun H1 s1 => ⟨true, rfl, iteT ?_⟩⟩
    refine ⟨.ref a, rfl, a, _, rfl, .inr (.inl (.inl (s1 _ _ ha))), _, _, rfl, rfl, true, blT (by rw [List.length_map]; omega), iteT ⟨_, _, rfl, rfl, ?_⟩⟩
    have e : decide (((ms.map V.str).length : Int) ≤ 4) = true := decide_eq_true (by rw [List.length_map]; omega)
    show Q (.bl (decide (((ms.map V.str).length : Int) ≤ 4))) H1
    rw [e]
    exact q _ s1
end
end NW
namespace NW
open PySem PySem.Spec PyProof.Rows L2
open TL (tl)
open StX (pa_star)
abbrev s_check_names : Stmt := topS 26
abbrev N_check_names : List Str := ["kinds", "faces", "unions"]
theorem sc_check_names : FnScope N_check_names ["kinds", "faces", "unions"] (defScope s_check_names) := ⟨rfl, rfl, rfl, by decide +kernel, rfl, by decide +kernel, by decide +kernel⟩
abbrev s_check_schema : Stmt := topS 25
abbrev N_check_schema : List Str := ["kinds", "faces", "unions", "root", "bases", "name"]
theorem sc_check_schema : FnScope N_check_schema ["kinds", "faces", "unions", "root"] (defScope s_check_schema) := ⟨rfl, rfl, rfl, by decide +kernel, rfl, by decide +kernel, by decide +kernel⟩
theorem kV_map {α : Type} (l : List α) (f : α → Str) (g : α → V) : ((l.map fun a => ((Sum.inr (f a) : Key), g a)).map fun kv => kV kv.1) = (l.map f).map V.str := by
  rw [List.map_map, List.map_map]
  rfl
abbrev dkeys (kvs : List (Key × V)) : List V := kvs.map fun kv => kV kv.1
abbrev LV : List Str := [("number" : Str), ("text" : Str)]
theorem dkeys_k (ks : List KRow) : dkeys (kkv ks) = (ks.map fun k : KRow => k.nm).map V.str := kV_map ks (fun k => k.nm) (fun k => V.ref k.t)
theorem dkeys_f (fs : List FRow) : dkeys (fkvs fs) = (fs.map fun k : FRow => k.nm).map V.str := kV_map fs (fun k => k.nm) (fun k => V.ref k.da)
theorem dkeys_u (us : List URow) : dkeys (ukv us) = (us.map fun k : URow => k.nm).map V.str := kV_map us (fun k => k.nm) (fun k => V.ref k.t)
theorem dkeys_len (kvs : List (Key × V)) : (dkeys kvs).length = kvs.length := List.length_map ..
/-! ### what the names of a schema are -/
section
variable {ks : List KRow} {fs : List FRow} {us : List URow} {root : Str}
theorem SchOk.ndk (h : SchOk ks fs us root) : (ks.map (·.nm)).Nodup := ((List.nodup_append.mp (List.nodup_append.mp h.nd).2.1)).1
theorem SchOk.ndfu (h : SchOk ks fs us root) : (fs.map (·.nm) ++ us.map (·.nm)).Nodup := ((List.nodup_append.mp (List.nodup_append.mp h.nd).2.1)).2.1
theorem SchOk.ndf (h : SchOk ks fs us root) : (fs.map (·.nm)).Nodup := (List.nodup_append.mp h.ndfu).1
theorem SchOk.ndu (h : SchOk ks fs us root) : (us.map (·.nm)).Nodup := (List.nodup_append.mp h.ndfu).2.1
theorem SchOk.lv (h : SchOk ks fs us root) {z : Str} (m : z ∈ ks.map (·.nm) ++ (fs.map (·.nm) ++ us.map (·.nm))) : z ∉ [("number" : Str), ("text" : Str)] := fun q => (List.nodup_append.mp h.nd).2.2 z q z m rfl
theorem SchOk.kfu (h : SchOk ks fs us root) {z : Str} (m : z ∈ ks.map (·.nm)) : z ∉ fs.map (·.nm) ++ us.map (·.nm) := fun q => (List.nodup_append.mp (List.nodup_append.mp h.nd).2.1).2.2 z m z q rfl
theorem SchOk.fu (h : SchOk ks fs us root) {z : Str} (m : z ∈ fs.map (·.nm)) : z ∉ us.map (·.nm) := fun q => (List.nodup_append.mp h.ndfu).2.2 z m z q rfl
theorem kkv_keys (ks : List KRow) : (kkv ks).map (·.1) = (ks.map (·.nm)).map Sum.inr := keys_map ks (·.nm) (V.ref ·.t)
theorem fkvs_keys (fs : List FRow) : (fkvs fs).map (·.1) = (fs.map (·.nm)).map Sum.inr := keys_map fs (·.nm) (V.ref ·.da)
theorem ukv_keys (us : List URow) : (ukv us).map (·.1) = (us.map (·.nm)).map Sum.inr := keys_map us (·.nm) (V.ref ·.t)
theorem kkv_val (nd : (ks.map (·.nm)).Nodup) {k : KRow} (m : k ∈ ks) : valV (kkv ks) (Sum.inr k.nm) = some (.ref k.t) := valV_map (f := fun k : KRow => k.nm) (g := fun k : KRow => V.ref k.t) nd m
theorem fkvs_val (nd : (fs.map (·.nm)).Nodup) {k : FRow} (m : k ∈ fs) : valV (fkvs fs) (Sum.inr k.nm) = some (.ref k.da) := valV_map (f := fun k : FRow => k.nm) (g := fun k : FRow => V.ref k.da) nd m
theorem ukv_val (nd : (us.map (·.nm)).Nodup) {k : URow} (m : k ∈ us) : valV (ukv us) (Sum.inr k.nm) = some (.ref k.t) := valV_map (f := fun k : URow => k.nm) (g := fun k : URow => V.ref k.t) nd m
theorem kkv_some (nd : (ks.map (·.nm)).Nodup) {z : Str} (m : z ∈ ks.map (·.nm)) : (valV (kkv ks) (Sum.inr z)).isSome = true := by
  obtain ⟨k, hk, rfl⟩ := List.mem_map.mp m
  rw [kkv_val nd hk]
  rfl
theorem fkvs_some (nd : (fs.map (·.nm)).Nodup) {z : Str} (m : z ∈ fs.map (·.nm)) : (valV (fkvs fs) (Sum.inr z)).isSome = true := by
  obtain ⟨k, hk, rfl⟩ := List.mem_map.mp m
  rw [fkvs_val nd hk]
  rfl
theorem kkv_at {i : Nat} {k : Key} {v : V} (e : (kkv ks)[i]? = some (k, v)) : ∃ r, ks[i]? = some r ∧ k = Sum.inr r.nm ∧ v = .ref r.t := by
  unfold kkv at e
  rw [List.getElem?_map] at e
  cases h : ks[i]? with
  | none => rw [h] at e; cases e
  | some f =>
    rw [h] at e
    cases e
    exact ⟨f, rfl, rfl, rfl⟩
end
section
variable {P : Program} {w : World} {K : PySem.W.Frag} {mg : Str → Option Value} {base : Heap}

def spIsFace (K : PySem.W.Frag) : Sp := fun vs H Q _ => ∃ (kt bs : Addr) (f : FRow) (ks : List KRow) (l : List Str), vs = [.str f.nm, .ref f.da, .ref kt, .ref bs] ∧ FldAt H f.da f.fds ∧ FdsOk l f.fds 4 ∧ H kt = some (.dK (kkv ks)) ∧ (∀ k ∈ ks, k.At H) ∧ (ks.map (·.nm)).Nodup ∧ ks.length ≤ 6 ∧
  (∀ k ∈ ks, (k.fds.map (·.1)).Nodup) ∧ (∃ k ∈ ks, f.nm ∈ k.fcs) ∧ (∀ k ∈ ks, f.nm ∈ k.fcs → ∀ x ∈ f.fds, ∃ y ∈ k.fds, y.1 = x.1 ∧ y.2.2 = x.2.2) ∧ SqL K H bs (l.map V.str) ∧ ∀ H', Same H H' → Q (.bl true) H'
theorem ok_is_face {f f1 f2 : Addr} {fd fd1 fd2 : FuncData} (D : Df K mg "is_face" s_is_face f fd ["name", "fields", "kinds", "bases"]) (D_is_fields : Df K mg "is_fields" s_is_fields f1 fd1 ["fields", "most", "bases"])
    (D_has_fields : Df K mg "has_fields" s_has_fields f2 fd2 ["holder", "fields"]) (T : Nms mg) (C : Cst K mg) (G_is_fields : FnOk P w K mg base CX0 6 f1 fd1 ["fields", "most", "bases"] (spIsFields K)) : FnOk P w K mg base CX0 7 f fd ["name", "fields", "kinds", "bases"] (spIsFace K) := by
  have G_has_fields : FnOk P w K mg base CX0 1 f2 fd2 ["holder", "fields"] spHasFields := ok_has_fields D_has_fields T
  obtain ⟨t4, g_M⟩ := C.MOST_FACE_FIELDS
  refine D.F.ok sc_is_face (fun vs H Q E h => ?_) (fun cdv A outer s H vs Q E hr h => ?_)
  · obtain ⟨kt, bs, f, ks, l, rfl, _⟩ := h
    rfl
  · obtain ⟨kt, bs, f, ks, l, rfl, hf, ok, hk, hka, hnd, hl6, hfn, ⟨k0, hk0, hk1⟩, hff, hb, q⟩ := h
    have hu := hu_of hr
    refine ⟨_, (pss_cons (ps_if (pt_not (pt_val (pe_call G_is_fields (hr.mono (by decide)) (by rfl) D_is_fields.g D_is_fields.F.kp D_is_fields.b .nil pass0 (pa_cons (pv 1) (pa_cons (pe_glob (v := .int 4) (by rfl) g_M ⟨_, rfl⟩) (pa_cons (pv 3) pa_nil))))))
       (pss_one (ps_ret pe_bl))
       pss_nil)
      (pss_cons (ps_lock (ps_setLc (i := 4) (own := [("kind", 5)]) (g := (gName 5)) rfl sc_is_face.nd rfl rfl (sw_true rfl rfl rfl (by decide +kernel)) (pi_keys (pv 2)) (blkOk_by (own := [("kind", 5)]) (N := N_is_face) (sc := defScope s_is_face) (by decide +kernel)) (fun _ _ _ _ _ => (pg_name (i := 5) sc_is_face.nd rfl (.inl rfl))) (fun _ _ _ _ _ => pts_one (pt_cmpR (op_in_seqK K) (pv 0) (pe_ix (ix_tupK K) (pe_dget hu (pv 2) (pv 5) (fun _ _ => rfl)) pe_int (fun _ _ => rfl)) (by rfl))) (fun _ _ _ _ _ => (pe_ix (ix_tupK K) (pe_dget hu (pv 2) (pv 5) (fun _ _ => rfl)) pe_int (fun _ _ => rfl)))))
      (pss_one (ps_ret (pe_and (pe_cmpR op_gt (pe_callB call_len_seq (by rfl) T.n_len (by decide +kernel) (pa_cons (pv 4) pa_nil)) pe_int (nomark _)) (pe_one (pe_callB (cr_all rfl) (by rfl) T.n_all (by decide +kernel) (pa_cons (pe_lc (own := [("holder", 6)]) (g := (gName 6)) (tt := tYes) rfl sc_is_face.nd (pi_list (pv 4)) (blkOk_by (own := [("holder", 6)]) (N := N_is_face) (sc := defScope s_is_face) (by decide +kernel)) (fun _ _ _ _ _ => (pg_name (i := 6) sc_is_face.nd rfl (.inl rfl))) (fun _ _ _ _ _ => pts_nil) (fun _ _ _ _ _ => (pe_call G_has_fields (hr.mono (by decide)) (by rfl) D_has_fields.g D_has_fields.F.kp D_has_fields.b .nil pass0 (pa_cons (pv 6) (pa_cons (pv 1) pa_nil))))) pa_nil)))))))), ?_⟩
    refine ⟨.ref f.da, rfl, .ref bs, rfl, f.da, bs, 4, f.fds, l, rfl, hf, ok, by decide, hb, fun H1 s1 => ⟨true, rfl, iteF ?_⟩⟩
    have hk1' := s1 _ _ hk
    -- holders
    refine ⟨kt, .dK (kkv ks), hk1', trivial, fun od => ⟨.ref kt, rfl, kt, od, rfl, .inl ⟨kkv ks, upd_same, fun Da nD => ?_⟩⟩⟩
    have hkl : (kkv ks).length = ks.length := List.length_map ..
    refine lc_it walk_keys (fun i H' => Same (upd H1 kt (.frz od (.dK (kkv ks)))) H' ∧ H' Da = some (.lst (((ks.take i).filter fun k => decide (f.nm ∈ k.fcs)).map fun k => V.ref k.da))) ⟨same_new nD, upd_same⟩ (fun i H _ p => p.1 _ _ upd_same) ?_ ?_
    · rintro i x H2 H3 hi ⟨sm, e2⟩ ⟨rfl, k, v, e, rfl⟩
      obtain ⟨r, er, rfl, rfl⟩ := kkv_at e
      have hm := List.mem_of_getElem? er
      have rk : Rd H3 kt (.dK (kkv ks)) := .inr ⟨od, sm _ _ upd_same⟩
      have hr' : r.At H1 := (hka r hm).same s1
      have ht : SqT K H3 r.t [.ref r.fa, .ref r.da] := .inl (.inl (sm _ _ (by rw [upd_ne (ne_of hr'.t hk1' (by intro z; cases z))]; exact hr'.t)))
      have hfa : SqT K H3 r.fa (r.fcs.map V.str) := .inl (.inl (sm _ _ (by rw [upd_ne (ne_of hr'.f hk1' (by intro z; cases z))]; exact hr'.f)))
      refine ⟨rfl, .str f.nm, rfl, .ref kt, rfl, .str r.nm, rfl, kt, _, rfl, .inl ⟨kkv ks, .inr r.nm, rk, rfl, (kkv_val hnd hm).symm⟩, r.t, _, 0, _, rfl, rfl, ht, atI_nat (j := 0) rfl, r.fa, _, rfl, .inr hfa, rfl, flat_map _, _, rfl, ?_⟩
      have et : ks.take (i + 1) = ks.take i ++ [r] := by rw [List.take_add_one, er]; rfl
      by_cases hin : f.nm ∈ r.fcs
      · show if (if false = true then !inV (.str f.nm) (r.fcs.map V.str) else inV (.str f.nm) (r.fcs.map V.str)) = true then _ else _
        rw [if_neg (show ¬ (false = true) by decide), inV_strs, decide_eq_true hin, if_pos rfl]
        refine ⟨.ref kt, rfl, .str r.nm, rfl, kt, _, rfl, .inl ⟨kkv ks, .inr r.nm, rk, rfl, (kkv_val hnd hm).symm⟩, r.t, _, 1, _, rfl, rfl, ht, atI_nat (j := 1) rfl, _, e2, ?_, same_upd sm nD, ?_⟩
        · rw [List.length_map]
          have h1 := List.length_filter_le (fun k : KRow => decide (f.nm ∈ k.fcs)) (ks.take i)
          have h2 := List.length_take_le i ks
          exact Nat.lt_of_le_of_lt (show _ ≤ 1000 by omega) (by decide)
        · rw [upd_same, et, List.filter_append, List.map_append]
          rw [List.filter_cons_of_pos (by simpa using hin)]
          rfl
      · show if (if false = true then !inV (.str f.nm) (r.fcs.map V.str) else inV (.str f.nm) (r.fcs.map V.str)) = true then _ else _
        rw [if_neg (show ¬ (false = true) by decide), inV_strs, decide_eq_false hin, if_neg (by decide)]
        refine ⟨sm, ?_⟩
        rw [et, List.filter_append, List.filter_cons_of_neg (by simpa using hin), List.filter_nil, List.append_nil]
        exact e2
    · rintro H2 ⟨sm, e2⟩
      rw [hkl, List.take_length] at e2
      refine ⟨sm _ _ upd_same, ?_⟩
      have nDk : Da ≠ kt := fun z => by rw [z, upd_same] at nD; cases nD
      have s2 : Same H1 (upd H2 kt (.dK (kkv ks))) := same_unlock hk1' sm
      have e3 : (upd H2 kt (.dK (kkv ks))) Da = some (.lst ((ks.filter fun k => decide (f.nm ∈ k.fcs)).map fun k => V.ref k.da)) := by rw [upd_ne nDk]; exact e2
      generalize upd H2 kt (.dK (kkv ks)) = H3 at s2 e3
      have hl : 0 < (ks.filter fun k => decide (f.nm ∈ k.fcs)).length := List.length_pos_of_mem (List.mem_filter.mpr ⟨hk0, decide_eq_true hk1⟩)
      have hle := List.length_filter_le (fun k : KRow => decide (f.nm ∈ k.fcs)) ks
      refine ⟨.ref Da, rfl, Da, _, rfl, .inl (SqL.of e3), _, _, rfl, rfl, true, blT (by rw [List.length_map]; omega), iteT ⟨.ref Da, rfl, Da, rfl, ⟨_, SqL.of e3⟩, fun Db nB => ?_⟩⟩
      refine lc_all (walk_list (xs := (ks.filter fun k => decide (f.nm ∈ k.fcs)).map fun k => V.ref k.da)) (fun i x => ∃ k ∈ ks, f.nm ∈ k.fcs ∧ x = .ref k.da) ?_ (fun H sm => SqL.of (sm _ _ e3)) nB (by rw [List.length_map]; omega) (fun _ => rfl) ?_ ?_
      · rintro i H x H' hi ⟨rfl, e⟩
        rw [List.getElem?_map] at e
        cases h : (ks.filter fun k => decide (f.nm ∈ k.fcs))[i]? with
        | none => rw [h] at e; cases e
        | some k =>
          rw [h] at e
          cases e
          have m := List.mem_filter.mp (List.mem_of_getElem? h)
          exact ⟨rfl, k, m.1, of_decide_eq_true m.2, rfl⟩
      · rintro i x H4 Q4 hi ⟨k, hkm, hkf, rfl⟩ sm4 kk
        have sA : Same H H4 := (s1.trans s2).trans sm4
        exact ⟨.ref k.da, rfl, .ref f.da, rfl, k.da, f.da, k.fds, f.fds, l, 4, rfl, (hka k hkm).d.same sA, hf.same sA, hfn k hkm, ok, by decide, hff k hkm hkf, kk⟩
      · intro H4 sm4 e4
        refine ⟨Db, List.replicate ((ks.filter fun k => decide (f.nm ∈ k.fcs)).map fun k => V.ref k.da).length true, rfl, SqL.of e4, ?_⟩
        rw [all_true]
        exact q _ ((s1.trans s2).trans sm4)
end
end NW
namespace NW
open PySem PySem.Spec PyProof.Rows L2
open TL (tl)
open StX (pa_star)
section
variable {P : Program} {w : World} {K : PySem.W.Frag} {mg : Str → Option Value} {base : Heap}

def spCheck (K : PySem.W.Frag) : Sp := fun vs H Q _ => ∃ (kt ft ut : Addr) (ks : List KRow) (fs : List FRow) (us : List URow) (root : Str), vs = [.ref kt, .ref ft, .ref ut] ∧ SchAt H kt ft ut ks fs us ∧ SchOk ks fs us root ∧ ∀ H', Same H H' → Q .non H'
theorem ok_check_names {f f1 : Addr} {fd fd1 : FuncData} (D : Df K mg "check_names" s_check_names f fd ["kinds", "faces", "unions"]) (D_is_table : Df K mg "is_table" s_is_table f1 fd1 ["table", "least", "most", "taken"]) (T : Nms mg) (C : Cst K mg)
    (G_is_table : FnOk P w K mg base CX0 2 f1 fd1 ["table", "least", "most", "taken"] (spIsTable K)) : FnOk P w K mg base CX0 3 f fd ["kinds", "faces", "unions"] (spCheck K) := by
  obtain ⟨t1, g_MOST_KINDS⟩ := C.MOST_KINDS
  obtain ⟨t2, g_MOST_FACES⟩ := C.MOST_FACES
  obtain ⟨t3, g_MOST_UNIONS⟩ := C.MOST_UNIONS
  obtain ⟨la, g_L, hL⟩ := C.LEAVES
  refine D.F.ok sc_check_names (fun vs H Q E h => ?_) (fun cdv A outer s H vs Q E hr h => ?_)
  · obtain ⟨kt, ft, ut, ks, fs, us, root, rfl, _⟩ := h
    rfl
  · obtain ⟨kt, ft, ut, ks, fs, us, root, rfl, S, ok, q⟩ := h
    refine ⟨_, (pss_cons (ps_if (pt_not (pt_val (pe_call G_is_table (hr.mono (by decide)) (by rfl) D_is_table.g D_is_table.F.kp D_is_table.b .nil pass0 (pa_cons (pv 0) (pa_cons pe_int (pa_cons (pe_glob (v := .int 6) (by rfl) g_MOST_KINDS ⟨_, rfl⟩) (pa_cons (pe_glob (v := .ref la) (by rfl) g_L rfl) pa_nil)))))))
       (pss_one ps_never)
       pss_nil)
      (pss_cons (ps_if (pt_not (pt_val (pe_call G_is_table (hr.mono (by decide)) (by rfl) D_is_table.g D_is_table.F.kp D_is_table.b .nil pass0 (pa_cons (pv 1) (pa_cons pe_int (pa_cons (pe_glob (v := .int 3) (by rfl) g_MOST_FACES ⟨_, rfl⟩) (pa_cons (pe_lst (pa_star (pe_glob (v := .ref la) (by rfl) g_L rfl) (pa_starD rfl (pv 0) pa_nil))) pa_nil)))))))
       (pss_one ps_never)
       pss_nil)
      (pss_one (ps_if (pt_not (pt_val (pe_call G_is_table (hr.mono (by decide)) (by rfl) D_is_table.g D_is_table.F.kp D_is_table.b .nil pass0 (pa_cons (pv 2) (pa_cons pe_int (pa_cons (pe_glob (v := .int 3) (by rfl) g_MOST_UNIONS ⟨_, rfl⟩) (pa_cons (pe_lst (pa_star (pe_glob (v := .ref la) (by rfl) g_L rfl) (pa_starD rfl (pv 0) (pa_starD rfl (pv 1) pa_nil)))) pa_nil)))))))
       (pss_one ps_never)
       pss_nil)))), ?_⟩
    refine ⟨.ref kt, rfl, kt, la, kkv ks, ks.map (·.nm), LV, 1, 6, rfl, S.kd, kkv_keys ks, fun z hz => ⟨?_, ok.lv (List.mem_append_left _ hz)⟩, ?_, ?_, ?_, .inr (hL H), fun H1 s1 => ⟨true, rfl, iteF ?_⟩⟩
    · obtain ⟨k, hk, rfl⟩ := List.mem_map.mp hz
      exact ok.nk k hk
    · rw [List.length_map]; have := ok.k0; omega
    · rw [List.length_map]; have := ok.k1; omega
    · rw [List.length_map]; have := ok.k1; omega
    have S1 := S.same s1
    refine ⟨.ref ft, rfl, la, _, rfl, .inl (hL H1), .ref kt, rfl, kt, kkv ks, rfl, .inl S1.kd, ?_, fun p np => ?_⟩
    · show ([V.str "number", V.str "text"] ++ (dkeys (kkv ks) ++ [])).length ≤ sizeLine
      rw [List.length_append, List.length_append, dkeys_len, show (kkv ks).length = ks.length from List.length_map ..]
      exact Nat.le_trans (show 2 + (ks.length + 0) ≤ 1000 by have := ok.k1; omega) (by decide)
    have el : ([V.str "number", V.str "text"] ++ (dkeys (kkv ks) ++ [])) = (LV ++ ks.map (fun k : KRow => k.nm)).map V.str := by
      rw [dkeys_k, List.append_nil, List.map_append]
      rfl
    refine ⟨ft, p, fkvs fs, fs.map (·.nm), LV ++ ks.map (fun k : KRow => k.nm), 0, 3, rfl, by rw [upd_ne (ne_of_none S1.fd np)]; exact S1.fd, fkvs_keys fs, fun z hz => ⟨?_, ?_⟩, Int.natCast_nonneg _, ?_, ?_, .inl (SqL.of ?_), fun H2 s2 => ⟨true, rfl, iteF ?_⟩⟩
    · obtain ⟨k, hk, rfl⟩ := List.mem_map.mp hz
      exact ok.nf k hk
    · intro m
      rcases List.mem_append.mp m with m | m
      · exact ok.lv (List.mem_append_right _ (List.mem_append_left _ hz)) m
      · exact ok.kfu m (List.mem_append_left _ hz)
    · rw [List.length_map]; have := ok.f1; omega
    · rw [List.length_map]; have := ok.f1; omega
    · rw [← el]
      exact upd_same
    have sm2 : Same H H2 := s1.trans ((same_new np).trans s2)
    have S2 := S.same sm2
    refine ⟨.ref ut, rfl, la, _, rfl, .inl (hL H2), .ref kt, rfl, kt, kkv ks, rfl, .inl S2.kd, .ref ft, rfl, ft, fkvs fs, rfl, .inl S2.fd, ?_, fun p2 np2 => ?_⟩
    · show ([V.str "number", V.str "text"] ++ (dkeys (kkv ks) ++ (dkeys (fkvs fs) ++ []))).length ≤ sizeLine
      rw [List.length_append, List.length_append, List.length_append, dkeys_len, dkeys_len, show (kkv ks).length = ks.length from List.length_map .., show (fkvs fs).length = fs.length from List.length_map ..]
      exact Nat.le_trans (show 2 + (ks.length + (fs.length + 0)) ≤ 1000 by have := ok.k1; have := ok.f1; omega) (by decide)
    have el2 : ([V.str "number", V.str "text"] ++ (dkeys (kkv ks) ++ (dkeys (fkvs fs) ++ []))) = (LV ++ (ks.map (fun k : KRow => k.nm) ++ fs.map (fun k : FRow => k.nm))).map V.str := by
      rw [dkeys_k, dkeys_f, List.append_nil, List.map_append, List.map_append]
      rfl
    refine ⟨ut, p2, ukv us, us.map (·.nm), LV ++ (ks.map (fun k : KRow => k.nm) ++ fs.map (fun k : FRow => k.nm)), 0, 3, rfl, by rw [upd_ne (ne_of_none S2.ud np2)]; exact S2.ud, ukv_keys us, fun z hz => ⟨?_, ?_⟩, Int.natCast_nonneg _, ?_, ?_, .inl (SqL.of ?_), fun H3 s3 => ⟨true, rfl, iteF ?_⟩⟩
    · obtain ⟨k, hk, rfl⟩ := List.mem_map.mp hz
      exact ok.nu k hk
    · intro m
      rcases List.mem_append.mp m with m | m
      · exact ok.lv (List.mem_append_right _ (List.mem_append_right _ hz)) m
      · rcases List.mem_append.mp m with m | m
        · exact ok.kfu m (List.mem_append_right _ hz)
        · exact ok.fu m hz
    · rw [List.length_map]; have := ok.u1; omega
    · rw [List.length_map]; have := ok.u1; omega
    · rw [← el2]
      exact upd_same
    exact q _ (sm2.trans ((same_new np2).trans s3))
def spCheckSchema (K : PySem.W.Frag) : Sp := fun vs H Q _ => ∃ (kt ft ut : Addr) (ks : List KRow) (fs : List FRow) (us : List URow) (root : Str), vs = [.ref kt, .ref ft, .ref ut, .str root] ∧ SchAt H kt ft ut ks fs us ∧ SchOk ks fs us root ∧ ∀ H', Same H H' → Q .non H'
theorem ok_check_schema {f f1 f2 f3 f4 f5 : Addr} {fd fd1 fd2 fd3 fd4 fd5 : FuncData} (D : Df K mg "check_schema" s_check_schema f fd ["kinds", "faces", "unions", "root"]) (D_check_names : Df K mg "check_names" s_check_names f1 fd1 ["kinds", "faces", "unions"])
    (D_is_kind : Df K mg "is_kind" s_is_kind f2 fd2 ["worth", "faces", "bases"]) (D_is_face : Df K mg "is_face" s_is_face f3 fd3 ["name", "fields", "kinds", "bases"]) (D_is_union : Df K mg "is_union" s_is_union f4 fd4 ["worth", "kinds"]) (D_is_key : Df K mg "is_key" s_is_key f5 fd5 ["name", "table"])
    (T : Nms mg) (C : Cst K mg) (G_check_names : FnOk P w K mg base CX0 3 f1 fd1 ["kinds", "faces", "unions"] (spCheck K)) (G_is_kind : FnOk P w K mg base CX0 7 f2 fd2 ["worth", "faces", "bases"] (spIsKind K))
    (G_is_face : FnOk P w K mg base CX0 7 f3 fd3 ["name", "fields", "kinds", "bases"] (spIsFace K)) (G_is_union : FnOk P w K mg base CX0 3 f4 fd4 ["worth", "kinds"] spIsUnion) (G_is_key : FnOk P w K mg base CX0 1 f5 fd5 ["name", "table"] (spIsKey K)) :
    FnOk P w K mg base CX0 8 f fd ["kinds", "faces", "unions", "root"] (spCheckSchema K) := by
  obtain ⟨la, g_L, hL⟩ := C.LEAVES
  refine D.F.ok sc_check_schema (fun vs H Q E h => ?_) (fun cdv A outer s H vs Q E hr h => ?_)
  · obtain ⟨kt, ft, ut, ks, fs, us, root, rfl, _⟩ := h
    rfl
  · obtain ⟨kt, ft, ut, ks, fs, us, root, rfl, S, ok, q⟩ := h
    have hu := hu_of hr
    refine ⟨_, (pss_cons (ps_expr (pe_call G_check_names (hr.mono (by decide)) (by rfl) D_check_names.g D_check_names.F.kp D_check_names.b .nil pass0 (pa_cons (pv 0) (pa_cons (pv 1) (pa_cons (pv 2) pa_nil)))))
      (pss_cons (ps_set (i := 4) sc_check_schema.nd rfl (.inl rfl) (pe_lst (pa_star (pe_glob (v := .ref la) (by rfl) g_L rfl) (pa_starD rfl (pv 0) (pa_starD rfl (pv 1) (pa_starD rfl (pv 2) pa_nil))))))
      (pss_cons (ps_for PassesOwn.never rfl (pi_list (pe_callB (call_sortedD rfl) (by rfl) T.n_sorted (by decide +kernel) (pa_cons (pv 0) pa_nil))) (pg_name (i := 5) sc_check_schema.nd rfl (.inl rfl))
       (pss_one (ps_if (pt_not (pt_val (pe_call G_is_kind (hr.mono (by decide)) (by rfl) D_is_kind.g D_is_kind.F.kp D_is_kind.b .nil pass0 (pa_cons (pe_dget hu (pv 0) (pv 5) (fun _ _ => rfl)) (pa_cons (pv 1) (pa_cons (pv 4) pa_nil))))))
         (pss_one ps_never)
         pss_nil)))
      (pss_cons (ps_for PassesOwn.never rfl (pi_list (pe_callB (call_sortedD rfl) (by rfl) T.n_sorted (by decide +kernel) (pa_cons (pv 1) pa_nil))) (pg_name (i := 5) sc_check_schema.nd rfl (.inl rfl))
       (pss_one (ps_if (pt_not (pt_val (pe_call G_is_face (hr.mono (by decide)) (by rfl) D_is_face.g D_is_face.F.kp D_is_face.b .nil pass0 (pa_cons (pv 5) (pa_cons (pe_dget hu (pv 1) (pv 5) (fun _ _ => rfl)) (pa_cons (pv 0) (pa_cons (pv 4) pa_nil)))))))
         (pss_one ps_never)
         pss_nil)))
      (pss_cons (ps_for PassesOwn.never rfl (pi_list (pe_callB (call_sortedD rfl) (by rfl) T.n_sorted (by decide +kernel) (pa_cons (pv 2) pa_nil))) (pg_name (i := 5) sc_check_schema.nd rfl (.inl rfl))
       (pss_one (ps_if (pt_not (pt_val (pe_call G_is_union (hr.mono (by decide)) (by rfl) D_is_union.g D_is_union.F.kp D_is_union.b .nil pass0 (pa_cons (pe_dget hu (pv 2) (pv 5) (fun _ _ => rfl)) (pa_cons (pv 0) pa_nil)))))
         (pss_one ps_never)
         pss_nil)))
      (pss_one (ps_if (pt_not (pt_val (pe_call G_is_key (hr.mono (by decide)) (by rfl) D_is_key.g D_is_key.F.kp D_is_key.b .nil pass0 (pa_cons (pv 3) (pa_cons (pv 0) pa_nil)))))
       (pss_one ps_never)
       pss_nil))))))), ?_⟩
    refine ⟨.ref kt, rfl, .ref ft, rfl, .ref ut, rfl, kt, ft, ut, ks, fs, us, root, rfl, S, ok, fun H1 s1 => ?_⟩
    have S1 := S.same s1
    have k1 := ok.k1
    have f1' := ok.f1
    have u1' := ok.u1
    refine ⟨la, _, rfl, .inl (hL H1), .ref kt, rfl, kt, kkv ks, rfl, .inl S1.kd, .ref ft, rfl, ft, fkvs fs, rfl, .inl S1.fd, .ref ut, rfl, ut, ukv us, rfl, .inl S1.ud, ?_, fun bs nb => ?_⟩
    · show ([V.str "number", V.str "text"] ++ (dkeys (kkv ks) ++ (dkeys (fkvs fs) ++ (dkeys (ukv us) ++ [])))).length ≤ sizeLine
      rw [List.length_append, List.length_append, List.length_append, List.length_append, dkeys_len, dkeys_len, dkeys_len, show (kkv ks).length = ks.length from List.length_map .., show (fkvs fs).length = fs.length from List.length_map .., show (ukv us).length = us.length from List.length_map ..]
      exact Nat.le_trans (show 2 + (ks.length + (fs.length + (us.length + 0))) ≤ 1000 by omega) (by decide)
    have el : ([V.str "number", V.str "text"] ++ (dkeys (kkv ks) ++ (dkeys (fkvs fs) ++ (dkeys (ukv us) ++ [])))) = (bsOf ks fs us).map V.str := by
      rw [dkeys_k, dkeys_f, dkeys_u]
      unfold bsOf
      rw [List.append_nil, List.map_append, List.map_append, List.map_append]
      rfl
    have sm2 : Same H (upd H1 bs (.lst ([V.str "number", V.str "text"] ++ (dkeys (kkv ks) ++ (dkeys (fkvs fs) ++ (dkeys (ukv us) ++ [])))))) := s1.trans (same_new nb)
    have hb2 : (upd H1 bs (.lst ([V.str "number", V.str "text"] ++ (dkeys (kkv ks) ++ (dkeys (fkvs fs) ++ (dkeys (ukv us) ++ [])))))) bs = some (.lst ((bsOf ks fs us).map V.str)) := by rw [← el]; exact upd_same
    generalize upd H1 bs (.lst ([V.str "number", V.str "text"] ++ (dkeys (kkv ks) ++ (dkeys (fkvs fs) ++ (dkeys (ukv us) ++ []))))) = H2 at sm2 hb2
    -- kinds
    refine ⟨.ref kt, rfl, kt, kkv ks, ks.map (·.nm), rfl, .inl (sm2 _ _ S.kd), kkv_keys ks, by rw [List.length_map]; omega, fun ys p pm so np => ⟨p, rfl, ⟨_, SqL.of upd_same⟩, ?_⟩⟩
    refine for_list (xs := ys.map V.str) (fun i σ H' => ∃ y, σ = [some (.ref kt), some (.ref ft), some (.ref ut), some (.str root), some (.ref bs), y] ∧ Same (upd H2 p (.lst (ys.map V.str))) H') ⟨none, rfl, Same.refl _⟩ (fun i σ H' _ h => by obtain ⟨y, _, sm⟩ := h; exact SqL.of (sm _ _ upd_same)) ?_ ?_
    · rintro i x σ H3 ex ⟨y, rfl, sm⟩
      obtain ⟨z, hz, rfl⟩ := List.mem_map.mp (List.mem_of_getElem? ex)
      obtain ⟨k, hk, rfl⟩ := List.mem_map.mp (pm.mem_iff.mp hz)
      have smA : Same H H3 := (sm2.trans (same_new np)).trans sm
      have S3 := S.same smA
      refine ⟨.ref kt, rfl, .str k.nm, rfl, kt, _, rfl, .inl ⟨kkv ks, .inr k.nm, .inl S3.kd, rfl, (kkv_val ok.ndk hk).symm⟩, .ref ft, rfl, .ref bs, rfl, k, ft, bs, fkvs fs, bsOf ks fs us, rfl, S3.ka k hk, S3.fd, (ok.kf k hk).1, by have := (ok.kf k hk).2.2; omega, fun z hz => fkvs_some ok.ndf ((ok.kf k hk).2.1 z hz), ok.kd k hk, SqL.of (((same_new np).trans sm) _ _ hb2), fun H4 s4 => ⟨true, rfl, iteF ⟨_, rfl, sm.trans s4⟩⟩⟩
    · rintro σ H3 ⟨y, rfl, sm⟩
      have sm3 : Same H2 H3 := (same_new np).trans sm
      have S3 := S.same (sm2.trans sm3)
      -- faces
      refine ⟨.ref ft, rfl, ft, fkvs fs, fs.map (·.nm), rfl, .inl S3.fd, fkvs_keys fs, by rw [List.length_map]; omega, fun ys p pm so np => ⟨p, rfl, ⟨_, SqL.of upd_same⟩, ?_⟩⟩
      refine for_list (xs := ys.map V.str) (fun i σ H' => ∃ y, σ = [some (.ref kt), some (.ref ft), some (.ref ut), some (.str root), some (.ref bs), y] ∧ Same (upd H3 p (.lst (ys.map V.str))) H') ⟨y, rfl, Same.refl _⟩ (fun i σ H' _ h => by obtain ⟨y, _, sm⟩ := h; exact SqL.of (sm _ _ upd_same)) ?_ ?_
      · rintro i x σ H4 ex ⟨y, rfl, sm⟩
        obtain ⟨z, hz, rfl⟩ := List.mem_map.mp (List.mem_of_getElem? ex)
        obtain ⟨k, hk, rfl⟩ := List.mem_map.mp (pm.mem_iff.mp hz)
        have smA : Same H H4 := ((sm2.trans sm3).trans (same_new np)).trans sm
        have S4 := S.same smA
        refine ⟨.str k.nm, rfl, .ref ft, rfl, .str k.nm, rfl, ft, _, rfl, .inl ⟨fkvs fs, .inr k.nm, .inl S4.fd, rfl, (fkvs_val ok.ndf hk).symm⟩, .ref kt, rfl, .ref bs, rfl, kt, bs, k, ks, bsOf ks fs us, rfl, S4.fa k hk, ok.fd k hk, S4.kd, S4.ka, ok.ndk, ok.k1, fun k' hk' => (ok.kd k' hk').nd, ok.fk k hk, ok.ff k hk, SqL.of (((sm3.trans (same_new np)).trans sm) _ _ hb2), fun H5 s5 => ⟨true, rfl, iteF ⟨_, rfl, sm.trans s5⟩⟩⟩
      · rintro σ H4 ⟨y, rfl, sm⟩
        have sm4 : Same H3 H4 := (same_new np).trans sm
        have S4 := S.same ((sm2.trans sm3).trans sm4)
        -- unions
        refine ⟨.ref ut, rfl, ut, ukv us, us.map (·.nm), rfl, .inl S4.ud, ukv_keys us, by rw [List.length_map]; omega, fun ys p pm so np => ⟨p, rfl, ⟨_, SqL.of upd_same⟩, ?_⟩⟩
        refine for_list (xs := ys.map V.str) (fun i σ H' => ∃ y, σ = [some (.ref kt), some (.ref ft), some (.ref ut), some (.str root), some (.ref bs), y] ∧ Same (upd H4 p (.lst (ys.map V.str))) H') ⟨y, rfl, Same.refl _⟩ (fun i σ H' _ h => by obtain ⟨y, _, sm⟩ := h; exact SqL.of (sm _ _ upd_same)) ?_ ?_
        · rintro i x σ H5 ex ⟨y, rfl, sm⟩
          obtain ⟨z, hz, rfl⟩ := List.mem_map.mp (List.mem_of_getElem? ex)
          obtain ⟨k, hk, rfl⟩ := List.mem_map.mp (pm.mem_iff.mp hz)
          have smA : Same H H5 := (((sm2.trans sm3).trans sm4).trans (same_new np)).trans sm
          have S5 := S.same smA
          obtain ⟨n1, n2, n3, n4⟩ := ok.ud k hk
          refine ⟨.ref ut, rfl, .str k.nm, rfl, ut, _, rfl, .inl ⟨ukv us, .inr k.nm, .inl S5.ud, rfl, (ukv_val ok.ndu hk).symm⟩, .ref kt, rfl, k.t, kt, kkv ks, k.ms, rfl, S5.ua k hk, S5.kd, n1, n2, n3, fun z hz => kkv_some ok.ndk (n4 z hz), fun H6 s6 => ⟨true, rfl, iteF ⟨_, rfl, sm.trans s6⟩⟩⟩
        · rintro σ H5 ⟨y, rfl, sm⟩
          have smA : Same H H5 := (((sm2.trans sm3).trans sm4).trans (same_new np)).trans sm
          have S5 := S.same smA
          refine ⟨.str root, rfl, .ref kt, rfl, .str root, kt, rfl, .inl ⟨root, rfl, .inr ⟨kkv ks, .inl S5.kd, true, ?_, iteF (q _ smA)⟩⟩⟩
          rw [kkv_some ok.ndk ok.rt]
end
end NW
namespace NW
open PySem PySem.Spec PyProof.Rows L2
section
variable {X : Cx}
/-- sorted of a tuple of texts -/
def rSortedTup (K : PySem.W.Frag) : List V → Hp → VK → Prop := fun xs H Q => ∃ (a : Addr) (ks : List Str), xs = [.ref a] ∧ SqT K H a (ks.map V.str) ∧ ks.length < 64 ∧
  ∀ ys p, ys.Perm ks → sortedS ys = true → H p = none → Q (.ref p) (upd H p (.lst (ys.map V.str)))
theorem strs_vals : ∀ {ks : List Str} {us : List Value}, Vals (ks.map V.str) us → StrsAre us ks
  | [], _, .nil => .nil
  | k :: ks, _, .cons ⟨t, e⟩ r => by
    subst e
    exact .cons k t (strs_vals r)
theorem call_sortedTup (K : PySem.W.Frag) (hK : X.K = K := by rfl) : CallR X (.builtin "sorted") (rSortedTup K) := by
  subst hK
  intro pins s σ H xs us Q I r q
  obtain ⟨a, ks, rfl, ha, few, q⟩ := q
  rw [Vals.ref1 r]
  obtain ⟨its, rv, pl, big⟩ := I.tuple ha
  obtain ⟨o, ho, hc, n, hd⟩ := pl
  have hlen : its.length = ks.length := by
    have e := rv.length
    rw [List.length_map] at e
    exact e.symm
  have hS : StrsAre its ks := strs_vals rv
  refine Calls.call_function_entry PyProof.Rows.kind_sorted PyProof.Rows.plain_sorted PyProof.Rows.entry_sorted (PyProof.Rows.args_sorted1 _) ?_
  unfold Builtin.«sorted»
  refine wpAny_bind (m := checkCount "sorted" 1 1 _) (wpAny_pure ?_)
  have room : its.toArray.size ≤ sizeLine := by rw [List.size_toArray, hlen, sizeLine_eq]; omega
  refine wpAny_bind (wpAny_collect_seq a (.inr rfl) ho hc hd (fun g kept => ?_) room)
  have el : its.toArray.toList = its := by simp
  rw [el]
  have J : Inv X pins σ H { s with heap := g } := I.kept (t' := s.toks) kept
  refine wpAny_bind (wpAny_newList ?_ (by rw [hlen, sizeLine_eq]; omega))
  have at_ : (g.push (seqObj "list" its.toArray 0)).get? g.objs.size = some (seqObj "list" its.toArray 0) := Heap.get?_push_size _ rfl
  show wpAny _ _ _ _ _ { s with heap := g.push (seqObj "list" its.toArray 0) }
  refine wpAny_bind (wpAny_holding (wpAny_call_entry PyProof.Rows.slot_list_sort ⟨_, at_, rfl⟩ PyProof.Rows.entry_list_sort (list_sort_treeK strKind_oneLt (s := { s with heap := g.push (seqObj "list" its.toArray 0) }) at_ hS.keysOf
    (fun v₁ v₂ rest e => keyKind_strs (by rw [← e]; exact hS)) (by rw [hlen]; exact few) fun st' hp hs => ⟨_, rfl, ?_⟩) (PyProof.Rows.args_list_sort _)))
  obtain ⟨ys, z1, z2, z3⟩ := sorted_out_str hS hp hs
  obtain ⟨e', he'⟩ := PyProof.Rows.sortedHeap_at (vs := its) (out := (arrOf st').map (·.2)) at_
  have fits : (ys.map V.str).length ≤ sizeLine := by
    rw [List.length_map, z2.length_eq, sizeLine_eq]
    omega
  refine wpAny_pure ⟨_, rfl, .ref g.objs.size, upd H g.objs.size (.lst (ys.map V.str)), J.laid (t' := s.toks) (fun b u e => ?_) (Nat.le_refl _) (show ObjOk X.prog X.w _ _ _ (.lst (ys.map V.str)) from ⟨fits, ((arrOf st').map (·.2)).toList, e', vals_of_strs z1, by rw [Array.toArray_toList]; exact he'⟩), rfl, q ys _ z2 z3 (J.hok.fresh (Nat.le_refl _))⟩
  have below : b < g.objs.size := Heap.lt_size e
  rw [PyProof.Rows.sortedHeap_old (Nat.ne_of_lt below) (by rw [size_push']; exact Nat.lt_succ_of_lt below)]
  exact Heap.get?_push_of_some _ e
/-- within a block -/
theorem cr_sortedSK (K : PySem.W.Frag) (h : X.K = K := by rfl) : CallR X (.builtin "sorted") (rSortedS K) := h ▸ cr_sortedS
theorem call_tuple_ofK (K : PySem.W.Frag) (h : X.K = K := by rfl) : CallR X (.type "tuple") (fun vs H Q => ∃ (p : Addr) (xs : List V), vs = [.ref p] ∧ ((SqL K H p xs ∧ ∀ l, H l = none → Q (.ref l) (upd H l (.tup xs))) ∨ (SqT K H p xs ∧ Q (.ref p) H))) := by
  subst h
  intro pins s σ H vs us Q I r q
  exact call_tuple_of pins s σ H vs us Q I r q
end
/-- a dict comprehension over anything that is walked: Pv by the turn and the heap -/
theorem dc_it {J : It} {n : Nat} {G : Hp → Prop} {Y : Nat → Hp → V → Hp → Prop} (w : Walk J n G Y) {g : TG} {tt : TT} {tk tv : TE} {vs : List Nat} {σ : L2.St} {H1 : Hp} {Da : Addr} {Qd : Hp → Prop} (Pv : Nat → Hp → Prop)
    (start : Pv 0 (upd H1 Da (.dK []))) (hG : ∀ i H, i ≤ n → Pv i H → G H)
    (turn : ∀ i x H H', i < n → Pv i H → Y i H x H' → g x (wipe σ vs) H' fun σ2 H2 => wipe σ2 vs = wipe σ vs ∧ tt σ2 H2 fun b H3 =>
      if b = true then tk σ2 H3 fun y H4 => tv σ2 H4 fun z H5 => ∃ kvs k, y = kV k ∧ H5 Da = some (.dK kvs) ∧ kvs.length < sizeLine ∧ Pv (i + 1) (upd H5 Da (.dK (putK kvs k z))) else Pv (i + 1) H3) (fin : ∀ H, Pv n H → Qd H) :
    ∃ W : Nat → Nat → Hp → Prop, (∃ m, W 0 m (upd H1 Da (.dK []))) ∧ ∀ i m H, W i m H →
      (J.stop i H ∧ Qd H) ∨ (J.go i H ∧ ∃ Nx : Hp → Prop, (∀ H', Nx H' → ∃ m', m' < m ∧ W (i + 1) m' H') ∧ ∀ x H', J.yld i H x H' → g x (wipe σ vs) H' fun σ2 H2 => wipe σ2 vs = wipe σ vs ∧ tt σ2 H2 fun b H3 =>
        if b = true then tk σ2 H3 fun y H4 => tv σ2 H4 fun z H5 => ∃ kvs k, y = kV k ∧ H5 Da = some (.dK kvs) ∧ kvs.length < sizeLine ∧ Nx (upd H5 Da (.dK (putK kvs k z))) else Nx H3) := by
  refine ⟨fun i m H => i + m = n ∧ Pv i H, ⟨n, Nat.zero_add n, start⟩, fun i m H h => ?_⟩
  obtain ⟨e, p⟩ := h
  have q := hG i H (by omega) p
  cases m with
  | zero =>
    have e2 : i = n := by omega
    subst e2
    exact .inl ⟨w.stops H q, fin H p⟩
  | succ m => exact .inr ⟨w.goes i H (by omega) q, Pv (i + 1), fun H' p' => ⟨m, Nat.lt_succ_self m, by omega, p'⟩, fun x H' y => turn i x H H' (by omega) p (w.yields i H x H' (by omega) q y)⟩
end NW
namespace NW
open PySem PySem.Spec PyProof.Rows L2
/-- the else of an if, once for all ways to it -/
theorem cutE {c : TT} {t u : TS} {D : Ends} {σ : L2.St} {H : Hp} (G : L2.St → Hp → Prop) (he : ∀ σ' H', G σ' H' → u D σ' H') (h : (∀ σ' H', G σ' H' → u D σ' H') → tIfS c t u D σ H) : tIfS c t u D σ H := h he
end NW
namespace NW
open PySem PySem.Spec PyProof.Rows L2
open TL (tl)
open StX (pa_star)
abbrev s_Schema_init : Stmt := inClass (topS 35) 0
abbrev N_Schema_init : List Str := ["self", "kinds", "faces", "unions", "root", "name"]
theorem sc_Schema_init : FnScope N_Schema_init ["self", "kinds", "faces", "unions", "root"] (defScope s_Schema_init) := ⟨rfl, rfl, rfl, by decide +kernel, rfl, by decide +kernel, by decide +kernel⟩
/-! ### a Schema in the heap -/
structure ClT (K : PySem.W.Frag) (C : Addr) : Prop where
  cl : Cls K C
  nk : NoAttr K C "kind_table"
  nf : NoAttr K C "face_table"
  nu : NoAttr K C "union_table"
  nr : NoAttr K C "root"
theorem n1 : ¬ (("face_table" : Str) = "kind_table") := by decide +kernel
theorem n2 : ¬ (("union_table" : Str) = "kind_table") := by decide +kernel
theorem n3 : ¬ (("root" : Str) = "kind_table") := by decide +kernel
theorem n4 : ¬ (("union_table" : Str) = "face_table") := by decide +kernel
theorem n5 : ¬ (("root" : Str) = "face_table") := by decide +kernel
theorem n6 : ¬ (("root" : Str) = "union_table") := by decide +kernel
def pfs (a b c : Addr) (z : Str) : List (Str × V) := [("kind_table", V.ref a), ("face_table", V.ref b), ("union_table", V.ref c), ("root", V.str z)]
theorem pf1 (a : Addr) : putF "kind_table" (.ref a) [] = [(("kind_table" : Str), V.ref a)] := rfl
theorem pf2 (a b : Addr) : putF "face_table" (.ref b) [(("kind_table" : Str), V.ref a)] = [(("kind_table" : Str), V.ref a), ("face_table", V.ref b)] := by
  show (if ("kind_table" : Str) = "face_table" then _ else _) = _
  rw [if_neg (fun e => n1 e.symm)]
  rfl
theorem pf3 (a b c : Addr) : putF "union_table" (.ref c) [(("kind_table" : Str), V.ref a), ("face_table", V.ref b)] = [(("kind_table" : Str), V.ref a), ("face_table", V.ref b), ("union_table", V.ref c)] := by
  show (if ("kind_table" : Str) = "union_table" then _ else _ :: (if ("face_table" : Str) = "union_table" then _ else _)) = _
  rw [if_neg (fun e => n2 e.symm), if_neg (fun e => n4 e.symm)]
  rfl
theorem pf4 (a b c : Addr) (z : Str) : putF "root" (.str z) [(("kind_table" : Str), V.ref a), ("face_table", V.ref b), ("union_table", V.ref c)] = pfs a b c z := by
  show (if ("kind_table" : Str) = "root" then _ else _ :: (if ("face_table" : Str) = "root" then _ else _ :: (if ("union_table" : Str) = "root" then _ else _))) = _
  rw [if_neg (fun e => n3 e.symm), if_neg (fun e => n5 e.symm), if_neg (fun e => n6 e.symm)]
  rfl
theorem lkk (a b c : Addr) (z : Str) : (pfs a b c z).lookup ("kind_table" : Str) = some (.ref a) := by simp [pfs, List.lookup]
theorem lkf (a b c : Addr) (z : Str) : (pfs a b c z).lookup ("face_table" : Str) = some (.ref b) := by
  have h1 : (("face_table" : Str) == "kind_table") = false := beq_eq_false_iff_ne.mpr n1
  simp [pfs, List.lookup, h1]
theorem lku (a b c : Addr) (z : Str) : (pfs a b c z).lookup ("union_table" : Str) = some (.ref c) := by
  have h1 : (("union_table" : Str) == "kind_table") = false := beq_eq_false_iff_ne.mpr n2
  have h2 : (("union_table" : Str) == "face_table") = false := beq_eq_false_iff_ne.mpr n4
  simp [pfs, List.lookup, h1, h2]
theorem lkr (a b c : Addr) (z : Str) : (pfs a b c z).lookup ("root" : Str) = some (.str z) := by
  have h1 : (("root" : Str) == "kind_table") = false := beq_eq_false_iff_ne.mpr n3
  have h2 : (("root" : Str) == "face_table") = false := beq_eq_false_iff_ne.mpr n5
  have h3 : (("root" : Str) == "union_table") = false := beq_eq_false_iff_ne.mpr n6
  simp [pfs, List.lookup, h1, h2, h3]
theorem lkn (a b c : Addr) (z : Str) {m : Str} (h1 : ¬ m = "kind_table") (h2 : ¬ m = "face_table") (h3 : ¬ m = "union_table") (h4 : ¬ m = "root") : (pfs a b c z).lookup m = none := by
  have e1 := beq_eq_false_iff_ne.mpr h1
  have e2 := beq_eq_false_iff_ne.mpr h2
  have e3 := beq_eq_false_iff_ne.mpr h3
  have e4 := beq_eq_false_iff_ne.mpr h4
  simp [pfs, List.lookup, e1, e2, e3, e4]
/-- what the made tables hold of what was handed in -/
def RelK (ks ks' : List KRow) : Prop := ks'.length = ks.length ∧ ∀ (i : Nat) (k k' : KRow), ks[i]? = some k → ks'[i]? = some k' → k'.nm = k.nm ∧ k'.fcs.Perm k.fcs ∧ sortedS k'.fcs = true ∧ k'.fds = k.fds
def RelF (ks ks' : List FRow) : Prop := ks'.length = ks.length ∧ ∀ (i : Nat) (k k' : FRow), ks[i]? = some k → ks'[i]? = some k' → k'.nm = k.nm ∧ k'.fds = k.fds
def RelU (ks ks' : List URow) : Prop := ks'.length = ks.length ∧ ∀ (i : Nat) (k k' : URow), ks[i]? = some k → ks'[i]? = some k' → k'.nm = k.nm ∧ k'.ms.Perm k.ms ∧ sortedS k'.ms = true
def BuiltAt (C : Addr) (H : Hp) (x : Addr) (ks : List KRow) (fs : List FRow) (us : List URow) (root : Str) : Prop :=
  ∃ dx kt ft ut ks' fs' us', H x = some (.ins C dx (pfs kt ft ut root)) ∧ SchAt H kt ft ut ks' fs' us' ∧ RelK ks ks' ∧ RelF fs fs' ∧ RelU us us'
theorem rel_snoc {α : Type} {ks rs : List α} {R : α → α → Prop} {i : Nat} {k r : α} (e : ks[i]? = some k) (hl : rs.length = i) (h : ∀ (j : Nat) (a b : α), ks[j]? = some a → rs[j]? = some b → R a b) (hr : R k r) : ∀ (j : Nat) (a b : α), ks[j]? = some a → (rs ++ [r])[j]? = some b → R a b := by
  intro j a b ea eb
  by_cases hj : j < rs.length
  · rw [List.getElem?_append_left hj] at eb
    exact h j a b ea eb
  · have hj2 : j = i := by
      have := (List.getElem?_eq_some_iff.mp eb).1
      rw [List.length_append, List.length_singleton] at this
      omega
    subst hj2
    rw [List.getElem?_append_right (by omega), hl, Nat.sub_self] at eb
    cases eb
    rw [e] at ea
    cases ea
    exact hr
theorem rel_names {α : Type} {f : α → Str} {ks rs : List α} {i : Nat} (hl : rs.length = i) (hi : i ≤ ks.length) (h : ∀ (j : Nat) (a b : α), ks[j]? = some a → rs[j]? = some b → f b = f a) : rs.map f = (ks.take i).map f := by
  refine List.ext_getElem? fun j => ?_
  rw [List.getElem?_map, List.getElem?_map]
  by_cases hj : j < i
  · have h1 : j < rs.length := by omega
    have h2 : j < ks.length := by omega
    rw [List.getElem?_eq_getElem h1, List.getElem?_take_of_lt hj, List.getElem?_eq_getElem h2]
    show some (f rs[j]) = some (f ks[j])
    rw [h j _ _ (List.getElem?_eq_getElem h2) (List.getElem?_eq_getElem h1)]
  · rw [List.getElem?_eq_none (by omega), List.getElem?_eq_none (by rw [List.length_take]; omega)]
theorem name_new {α : Type} {f : α → Str} {ks : List α} (nd : (ks.map f).Nodup) {i : Nat} {k : α} (e : ks[i]? = some k) : f k ∉ (ks.take i).map f := by
  intro m
  obtain ⟨a, ha, ea⟩ := List.mem_map.mp m
  obtain ⟨j, hj, ej⟩ := List.getElem_of_mem ha
  rw [List.length_take] at hj
  rw [List.getElem_take] at ej
  have hi := (List.getElem?_eq_some_iff.mp e)
  obtain ⟨hi1, hi2⟩ := hi
  have h1 : (ks.map f)[j]'(by rw [List.length_map]; omega) = (ks.map f)[i]'(by rw [List.length_map]; omega) := by
    rw [List.getElem_map, List.getElem_map, ej, hi2, ea]
  have := (List.getElem_inj nd).mp h1
  omega
theorem put_snoc {α : Type} {f : α → Str} {g : α → V} {rs : List α} {r : α} (h : f r ∉ rs.map f) : putK (rs.map fun a => ((Sum.inr (f a) : Key), g a)) (Sum.inr (f r)) (g r) = (rs ++ [r]).map fun a => ((Sum.inr (f a) : Key), g a) := by
  rw [putK_new _ (valV_out h), List.map_append]
  rfl
theorem KRow.At.put {H : Hp} {k : KRow} {Da : Addr} {kvs : List (Key × V)} {o : HO} (hD : H Da = some (.dK kvs)) (n : k.da ≠ Da) (h : k.At H) : k.At (upd H Da o) :=
  ⟨by rw [upd_ne (ne_of h.t hD (by intro z; cases z))]; exact h.t, by rw [upd_ne (ne_of h.f hD (by intro z; cases z))]; exact h.f, by rw [upd_ne n]; exact h.d.at_, fun f m => (h.d.sh f m).gr (xs := []) (.inr ⟨_, hD⟩) Gr.box⟩
theorem FldAt.put {H : Hp} {d : Addr} {fs : List Fld} {Da : Addr} {kvs : List (Key × V)} {o : HO} (hD : H Da = some (.dK kvs)) (n : d ≠ Da) (h : FldAt H d fs) : FldAt (upd H Da o) d fs :=
  ⟨by rw [upd_ne n]; exact h.at_, fun f m => (h.sh f m).gr (xs := []) (.inr ⟨_, hD⟩) Gr.box⟩
theorem Oth.frz {H : Hp} {b : Addr} {o : Obj} {u : HO} (h : H b = some (.frz o u)) : Oth H b := ⟨_, h, (by intro _ z; cases z), (by intro _ z; cases z)⟩
theorem gr_x {H H' : Hp} {x : Addr} (s : Same H H') : Gr x H H' := fun a o _ e => s a o e
theorem fkvs_at {fs : List FRow} {i : Nat} {k : Key} {v : V} (e : (fkvs fs)[i]? = some (k, v)) : ∃ r, fs[i]? = some r ∧ k = Sum.inr r.nm ∧ v = .ref r.da := by
  unfold fkvs at e
  rw [List.getElem?_map] at e
  cases h : fs[i]? with
  | none => rw [h] at e; cases e
  | some f =>
    rw [h] at e
    cases e
    exact ⟨f, rfl, rfl, rfl⟩
theorem ukv_at {us : List URow} {i : Nat} {k : Key} {v : V} (e : (ukv us)[i]? = some (k, v)) : ∃ r, us[i]? = some r ∧ k = Sum.inr r.nm ∧ v = .ref r.t := by
  unfold ukv at e
  rw [List.getElem?_map] at e
  cases h : us[i]? with
  | none => rw [h] at e; cases e
  | some f =>
    rw [h] at e
    cases e
    exact ⟨f, rfl, rfl, rfl⟩
section
variable {P : Program} {w : World} {K : PySem.W.Frag} {mg : Str → Option Value} {base : Heap}

def spInit (C : Addr) : Sp := fun vs H Q _ => ∃ (x dx kt ft ut : Addr) (ks : List KRow) (fs : List FRow) (us : List URow) (root : Str), vs = [.ref x, .ref kt, .ref ft, .ref ut, .str root] ∧ H x = some (.ins C dx []) ∧ SchAt H kt ft ut ks fs us ∧ SchOk ks fs us root ∧
  ∀ H', Gr x H H' → BuiltAt C H' x ks fs us root → Q .non H'
theorem ok_init {f f1 C : Addr} {fd fd1 : FuncData} (F : Fun K "__init__" "Schema.__init__" s_Schema_init f fd) (D_check_schema : Df K mg "check_schema" s_check_schema f1 fd1 ["kinds", "faces", "unions", "root"]) (T : Nms mg) (L : ClT K C)
    (G_check_schema : FnOk P w K mg base CX0 8 f1 fd1 ["kinds", "faces", "unions", "root"] (spCheckSchema K)) : FnOk P w K mg base CX0 9 f fd ["self", "kinds", "faces", "unions", "root"] (spInit C) := by
  refine F.ok sc_Schema_init (fun vs H Q E h => ?_) (fun cdv A outer s H vs Q E hr h => ?_)
  · obtain ⟨x, dx, kt, ft, ut, ks, fs, us, root, rfl, _⟩ := h
    rfl
  · obtain ⟨x, dx, kt, ft, ut, ks, fs, us, root, rfl, hx, S, ok, q⟩ := h
    have hu := hu_of hr
    refine ⟨_, (pss_cons (ps_expr (pe_call G_check_schema (hr.mono (by decide)) (by rfl) D_check_schema.g D_check_schema.F.kp D_check_schema.b .nil pass0 (pa_cons (pv 1) (pa_cons (pv 2) (pa_cons (pv 3) (pa_cons (pv 4) pa_nil))))))
      (pss_cons (ps_fld (pv 0) (pe_lock (pe_dc (own := [("name", 5)]) (g := (gName 5)) (tt := tYes) rfl sc_Schema_init.nd (pi_keys (pv 1)) (blkOk_by (own := [("name", 5)]) (N := N_Schema_init) (sc := defScope s_Schema_init) (by decide +kernel)) (fun _ _ _ _ _ => (pg_name (i := 5) sc_Schema_init.nd rfl (.inl rfl))) (fun _ _ _ _ _ => pts_nil) (fun _ _ _ _ _ => (pv 5)) (fun _ _ _ _ _ => (pe_tup (pa_cons (pe_callTy (call_tuple_ofK K) (by rfl) T.n_tuple (by decide +kernel) (pa_cons (pe_callB (call_sortedTup K) (by rfl) T.n_sorted (by decide +kernel) (pa_cons (pe_ix (ix_tupK K) (pe_dget hu (pv 1) (pv 5) (fun _ _ => rfl)) pe_int (fun _ _ => rfl)) pa_nil)) pa_nil)) (pa_cons (pe_callTy call_dictD (by rfl) T.n_dict (by decide +kernel) (pa_cons (pe_ix (ix_tupK K) (pe_dget hu (pv 1) (pv 5) (fun _ _ => rfl)) pe_int (fun _ _ => rfl)) pa_nil)) pa_nil)))))) rfl)
      (pss_cons (ps_fld (pv 0) (pe_lock (pe_dc (own := [("name", 5)]) (g := (gName 5)) (tt := tYes) rfl sc_Schema_init.nd (pi_keys (pv 2)) (blkOk_by (own := [("name", 5)]) (N := N_Schema_init) (sc := defScope s_Schema_init) (by decide +kernel)) (fun _ _ _ _ _ => (pg_name (i := 5) sc_Schema_init.nd rfl (.inl rfl))) (fun _ _ _ _ _ => pts_nil) (fun _ _ _ _ _ => (pv 5)) (fun _ _ _ _ _ => (pe_callTy call_dictD (by rfl) T.n_dict (by decide +kernel) (pa_cons (pe_dget hu (pv 2) (pv 5) (fun _ _ => rfl)) pa_nil))))) rfl)
      (pss_cons (ps_fld (pv 0) (pe_lock (pe_dc (own := [("name", 5)]) (g := (gName 5)) (tt := tYes) rfl sc_Schema_init.nd (pi_keys (pv 3)) (blkOk_by (own := [("name", 5)]) (N := N_Schema_init) (sc := defScope s_Schema_init) (by decide +kernel)) (fun _ _ _ _ _ => (pg_name (i := 5) sc_Schema_init.nd rfl (.inl rfl))) (fun _ _ _ _ _ => pts_nil) (fun _ _ _ _ _ => (pv 5)) (fun _ _ _ _ _ => (pe_callTy (call_tuple_ofK K) (by rfl) T.n_tuple (by decide +kernel) (pa_cons (pe_callB (call_sortedTup K) (by rfl) T.n_sorted (by decide +kernel) (pa_cons (pe_dget hu (pv 3) (pv 5) (fun _ _ => rfl)) pa_nil)) pa_nil))))) rfl)
      (pss_one (ps_fld (pv 0) (pv 4) rfl)))))), ?_⟩
    refine ⟨.ref kt, rfl, .ref ft, rfl, .ref ut, rfl, .str root, rfl, kt, ft, ut, ks, fs, us, root, rfl, S, ok, fun H1 s1 => ?_⟩
    have k1 := ok.k1
    have f1' := ok.f1
    have u1' := ok.u1
    have S1 := S.same s1
    have hx1 := s1 _ _ hx
    -- kind_table
    refine ⟨kt, .dK (kkv ks), S1.kd, trivial, fun od => ⟨.ref kt, rfl, kt, od, rfl, .inl ⟨kkv ks, upd_same, fun Da nD => ?_⟩⟩⟩
    have hkl : (kkv ks).length = ks.length := List.length_map ..
    refine dc_it walk_keys (fun i H' => Same (upd H1 kt (.frz od (.dK (kkv ks)))) H' ∧ ∃ rs : List KRow, rs.length = i ∧ (∀ (j : Nat) (a b : KRow), ks[j]? = some a → rs[j]? = some b → b.nm = a.nm ∧ b.fcs.Perm a.fcs ∧ sortedS b.fcs = true ∧ b.fds = a.fds) ∧ (∀ r ∈ rs, r.At H' ∧ r.da ≠ Da) ∧ H' Da = some (.dK (kkv rs)))
      ⟨same_new nD, [], rfl, (fun j a b _ e => by simp at e), (fun r m => by cases m), upd_same⟩ (fun i H _ p => p.1 _ _ upd_same) ?_ ?_
    · rintro i y H2 H3 hi ⟨sm, rs, hl, hrel, hat, eD⟩ ⟨rfl, k, v, e, rfl⟩
      obtain ⟨k, er, rfl, rfl⟩ := kkv_at e
      have hm := List.mem_of_getElem? er
      have rk : Rd H3 kt (.dK (kkv ks)) := .inr ⟨od, sm _ _ upd_same⟩
      have hk1 := S1.ka k hm
      have gl : Gr kt H1 (upd H1 kt (.frz od (.dK (kkv ks)))) := Gr.box
      have ht : H3 k.t = some (.tup [.ref k.fa, .ref k.da]) := sm _ _ (by rw [upd_ne (ne_of hk1.t S1.kd (by intro z; cases z))]; exact hk1.t)
      have hfa : H3 k.fa = some (.tup (k.fcs.map V.str)) := sm _ _ (by rw [upd_ne (ne_of hk1.f S1.kd (by intro z; cases z))]; exact hk1.f)
      have hda : Rd H3 k.da (.dK (fkv k.fds)) := rd_same sm (rd_put S1.kd hk1.d.at_)
      have hsh : ∀ f ∈ k.fds, ShAt H3 f.2.1 f.2.2 := fun f m => ((hk1.d.sh f m).gr (xs := []) (.inr ⟨_, S1.kd⟩) Gr.box).same sm
      have few := (ok.kf k hm).2.2
      refine ⟨rfl, lcT ⟨.str k.nm, rfl, .ref kt, rfl, .str k.nm, rfl, kt, _, rfl, .inl ⟨kkv ks, .inr k.nm, rk, rfl, (kkv_val ok.ndk hm).symm⟩, k.t, _, 0, _, rfl, rfl, .inl (.inl ht), atI_nat (j := 0) rfl, k.fa, k.fcs, rfl, .inl (.inl hfa), by omega, fun ys p pm so np => ⟨p, _, rfl, .inl ⟨SqL.of upd_same, fun l nl => ?_⟩⟩⟩⟩
      have s4 : Same H3 (upd (upd H3 p (.lst (ys.map V.str))) l (.tup (ys.map V.str))) := (same_new np).trans (same_new nl)
      have el : (upd (upd H3 p (.lst (ys.map V.str))) l (.tup (ys.map V.str))) l = some (.tup (ys.map V.str)) := upd_same
      generalize upd (upd H3 p (.lst (ys.map V.str))) l (.tup (ys.map V.str)) = H4 at s4 el
      refine ⟨.ref kt, rfl, .str k.nm, rfl, kt, _, rfl, .inl ⟨kkv ks, .inr k.nm, rd_same s4 rk, rfl, (kkv_val ok.ndk hm).symm⟩, k.t, _, 1, _, rfl, rfl, .inl (.inl (s4 _ _ ht)), atI_nat (j := 1) rfl, k.da, fkv k.fds, rfl, rd_same s4 hda, fun d nd => ?_⟩
      refine ⟨by show 2 ≤ sizeLine; decide, fun t nt => ?_⟩
      have s5 : Same H3 (upd (upd H4 d (.dK (fkv k.fds))) t (.tup [.ref l, .ref d])) := (s4.trans (same_new nd)).trans (same_new nt)
      have eD5 := s5 _ _ eD
      have ndD : d ≠ Da := (ne_of_none (s4 _ _ eD) nd).symm
      have at5 : (KRow.mk k.nm t l d ys k.fds).At (upd (upd H4 d (.dK (fkv k.fds))) t (.tup [.ref l, .ref d])) :=
        ⟨upd_same, (((same_new nd).trans (same_new nt)) _ _ el), (by rw [upd_ne (ne_of_none (upd_same) nt)]; exact upd_same), fun f m => (hsh f m).same s5⟩
      refine ⟨kkv rs, .inr k.nm, rfl, eD5, ?_, same_upd (sm.trans s5) nD, rs ++ [KRow.mk k.nm t l d ys k.fds], ?_, ?_, ?_, ?_⟩
      · rw [show (kkv rs).length = rs.length from List.length_map ..]
        exact Nat.lt_of_le_of_lt (show rs.length ≤ 1000 by omega) (by decide)
      · rw [List.length_append, hl]; rfl
      · exact rel_snoc er hl hrel ⟨rfl, pm, so, rfl⟩
      · intro r hr
        rcases List.mem_append.mp hr with hr | hr
        · exact ⟨((hat r hr).1.same s5).put eD5 (hat r hr).2, (hat r hr).2⟩
        · obtain rfl := List.mem_singleton.mp hr
          exact ⟨at5.put eD5 ndD, ndD⟩
      · rw [upd_same]
        have hn : k.nm ∉ rs.map (fun k : KRow => k.nm) := by
          rw [rel_names (f := fun k : KRow => k.nm) hl (by omega) (fun j a b ea eb => (hrel j a b ea eb).1)]
          exact name_new ok.ndk er
        exact congrArg (fun z => some (HO.dK z)) (put_snoc (f := fun k : KRow => k.nm) (g := fun k => V.ref k.t) (r := KRow.mk k.nm t l d ys k.fds) hn)
    · rintro H2 ⟨sm, rs, hl, hrel, hat, eD⟩
      refine ⟨sm _ _ upd_same, ?_⟩
      have nDk : Da ≠ kt := fun z => by rw [z, upd_same] at nD; cases nD
      have su : Same H1 (upd H2 kt (.dK (kkv ks))) := same_unlock S1.kd sm
      have eD' : (upd H2 kt (.dK (kkv ks))) Da = some (.dK (kkv rs)) := by rw [upd_ne nDk]; exact eD
      have hat' : ∀ r ∈ rs, r.At (upd H2 kt (.dK (kkv ks))) := fun r m => (hat r m).1.gr (Oth.frz (sm _ _ upd_same)) Gr.box
      have hx2 := su _ _ hx1
      generalize upd H2 kt (.dK (kkv ks)) = H3 at su eD' hat' hx2
      refine ⟨.ref x, rfl, x, C, dx, _, rfl, hx2, L.cl, L.nk, by show 0 < 1000; decide, ?_⟩
      have g4 : Gr x H (upd H3 x (.ins C dx (putF "kind_table" (.ref Da) []))) := (gr_x (s1.trans su)).trans Gr.box
      have eD4 : (upd H3 x (.ins C dx (putF "kind_table" (.ref Da) []))) Da = some (.dK (kkv rs)) := Gr.box (b := x) _ _ ((Oth.ins hx2).ned eD') eD'
      have hat4 : ∀ r ∈ rs, r.At (upd H3 x (.ins C dx (putF "kind_table" (.ref Da) []))) := fun r m => (hat' r m).gr (Oth.ins hx2) Gr.box
      have hx4 : (upd H3 x (.ins C dx (putF "kind_table" (.ref Da) []))) x = some (.ins C dx [(("kind_table" : Str), V.ref Da)]) := by rw [upd_same, pf1]
      generalize upd H3 x (.ins C dx (putF "kind_table" (.ref Da) [])) = H4 at g4 eD4 hat4 hx4
      have relk : RelK ks rs := ⟨by omega, hrel⟩
      clear hat hat' eD eD' hx2 su sm hrel hl nD nDk
      have S4 := S.gr (Oth.ins hx) g4
      -- face_table
      refine ⟨ft, .dK (fkvs fs), S4.fd, trivial, fun od => ⟨.ref ft, rfl, ft, od, rfl, .inl ⟨fkvs fs, upd_same, fun Db nD => ?_⟩⟩⟩
      have hfl : (fkvs fs).length = fs.length := List.length_map ..
      refine dc_it walk_keys (fun i H' => Same (upd H4 ft (.frz od (.dK (fkvs fs)))) H' ∧ ∃ ts : List FRow, ts.length = i ∧ (∀ (j : Nat) (a b : FRow), fs[j]? = some a → ts[j]? = some b → b.nm = a.nm ∧ b.fds = a.fds) ∧ (∀ r ∈ ts, FldAt H' r.da r.fds ∧ r.da ≠ Db) ∧ H' Db = some (.dK (fkvs ts)))
        ⟨same_new nD, [], rfl, (fun j a b _ e => by simp at e), (fun r m => by cases m), upd_same⟩ (fun i H _ p => p.1 _ _ upd_same) ?_ ?_
      · rintro i y H5 H6 hi ⟨sm, ts, hl, hrel, hat, eD⟩ ⟨rfl, k, v, e, rfl⟩
        obtain ⟨k, er, rfl, rfl⟩ := fkvs_at e
        have hm := List.mem_of_getElem? er
        have rk : Rd H6 ft (.dK (fkvs fs)) := .inr ⟨od, sm _ _ upd_same⟩
        have hk1 := S4.fa k hm
        have hda : Rd H6 k.da (.dK (fkv k.fds)) := rd_same sm (rd_put S4.fd hk1.at_)
        have hsh : ∀ f ∈ k.fds, ShAt H6 f.2.1 f.2.2 := fun f m => ((hk1.sh f m).gr (xs := []) (.inr ⟨_, S4.fd⟩) Gr.box).same sm
        refine ⟨rfl, lcT ⟨.str k.nm, rfl, .ref ft, rfl, .str k.nm, rfl, ft, _, rfl, .inl ⟨fkvs fs, .inr k.nm, rk, rfl, (fkvs_val ok.ndf hm).symm⟩, k.da, fkv k.fds, rfl, hda, fun d nd => ?_⟩⟩
        have s5 : Same H6 (upd H6 d (.dK (fkv k.fds))) := same_new nd
        have eD5 := s5 _ _ eD
        have ndD : d ≠ Db := (ne_of_none eD nd).symm
        have at5 : FldAt (upd H6 d (.dK (fkv k.fds))) d k.fds := ⟨upd_same, fun f m => (hsh f m).same s5⟩
        refine ⟨fkvs ts, .inr k.nm, rfl, eD5, ?_, same_upd (sm.trans s5) nD, ts ++ [FRow.mk k.nm d k.fds], ?_, ?_, ?_, ?_⟩
        · rw [show (fkvs ts).length = ts.length from List.length_map ..]
          exact Nat.lt_of_le_of_lt (show ts.length ≤ 1000 by omega) (by decide)
        · rw [List.length_append, hl]; rfl
        · exact rel_snoc er hl hrel ⟨rfl, rfl⟩
        · intro r hr
          rcases List.mem_append.mp hr with hr | hr
          · exact ⟨((hat r hr).1.same s5).put eD5 (hat r hr).2, (hat r hr).2⟩
          · obtain rfl := List.mem_singleton.mp hr
            exact ⟨at5.put eD5 ndD, ndD⟩
        · rw [upd_same]
          have hn : k.nm ∉ ts.map (fun k : FRow => k.nm) := by
            rw [rel_names (f := fun k : FRow => k.nm) hl (by omega) (fun j a b ea eb => (hrel j a b ea eb).1)]
            exact name_new ok.ndf er
          exact congrArg (fun z => some (HO.dK z)) (put_snoc (f := fun k : FRow => k.nm) (g := fun k => V.ref k.da) (r := FRow.mk k.nm d k.fds) hn)
      · rintro H5 ⟨sm, ts, hl, hrel, hat, eD⟩
        refine ⟨sm _ _ upd_same, ?_⟩
        have nDk : Db ≠ ft := fun z => by rw [z, upd_same] at nD; cases nD
        have su : Same H4 (upd H5 ft (.dK (fkvs fs))) := same_unlock S4.fd sm
        have eD' : (upd H5 ft (.dK (fkvs fs))) Db = some (.dK (fkvs ts)) := by rw [upd_ne nDk]; exact eD
        have hat' : ∀ r ∈ ts, FldAt (upd H5 ft (.dK (fkvs fs))) r.da r.fds := fun r m => (hat r m).1.gr (Oth.frz (sm _ _ upd_same)) Gr.box
        have hx5 := su _ _ hx4
        have eDa5 := su _ _ eD4
        have hatk : ∀ r ∈ rs, r.At (upd H5 ft (.dK (fkvs fs))) := fun r m => (hat4 r m).same su
        generalize upd H5 ft (.dK (fkvs fs)) = H6 at su eD' hat' hx5 eDa5 hatk
        refine ⟨.ref x, rfl, x, C, dx, _, rfl, hx5, L.cl, L.nf, by show 1 < 1000; decide, ?_⟩
        have gx : Gr x H6 (upd H6 x (.ins C dx (putF "face_table" (.ref Db) [(("kind_table" : Str), V.ref Da)]))) := Gr.box
        have g7 := (g4.trans (gr_x su)).trans gx
        have eDa7 := gx _ _ ((Oth.ins hx5).ned eDa5) eDa5
        have eDb7 := gx _ _ ((Oth.ins hx5).ned eD') eD'
        have hatk7 : ∀ r ∈ rs, r.At _ := fun r m => (hatk r m).gr (Oth.ins hx5) gx
        have hatf7 : ∀ r ∈ ts, FldAt _ r.da r.fds := fun r m => (hat' r m).gr (Oth.ins hx5) gx
        have hx7 : (upd H6 x (.ins C dx (putF "face_table" (.ref Db) [(("kind_table" : Str), V.ref Da)]))) x = some (.ins C dx [(("kind_table" : Str), V.ref Da), ("face_table", V.ref Db)]) := by rw [upd_same, pf2]
        generalize upd H6 x (.ins C dx (putF "face_table" (.ref Db) [(("kind_table" : Str), V.ref Da)])) = H7 at g7 eDa7 eDb7 hatk7 hatf7 hx7 gx
        have relf : RelF fs ts := ⟨by omega, hrel⟩
        clear hat hat' eD eD' hx5 su sm hrel hl nD nDk gx
        have S7 := S.gr (Oth.ins hx) g7
        -- union_table
        refine ⟨ut, .dK (ukv us), S7.ud, trivial, fun od => ⟨.ref ut, rfl, ut, od, rfl, .inl ⟨ukv us, upd_same, fun Dc nD => ?_⟩⟩⟩
        have hul : (ukv us).length = us.length := List.length_map ..
        refine dc_it walk_keys (fun i H' => Same (upd H7 ut (.frz od (.dK (ukv us)))) H' ∧ ∃ vs : List URow, vs.length = i ∧ (∀ (j : Nat) (a b : URow), us[j]? = some a → vs[j]? = some b → b.nm = a.nm ∧ b.ms.Perm a.ms ∧ sortedS b.ms = true) ∧ (∀ r ∈ vs, H' r.t = some (.tup (r.ms.map V.str))) ∧ H' Dc = some (.dK (ukv vs)))
          ⟨same_new nD, [], rfl, (fun j a b _ e => by simp at e), (fun r m => by cases m), upd_same⟩ (fun i H _ p => p.1 _ _ upd_same) ?_ ?_
        · rintro i y H8 H9 hi ⟨sm, vs, hl, hrel, hat, eD⟩ ⟨rfl, k, v, e, rfl⟩
          obtain ⟨k, er, rfl, rfl⟩ := ukv_at e
          have hm := List.mem_of_getElem? er
          have rk : Rd H9 ut (.dK (ukv us)) := .inr ⟨od, sm _ _ upd_same⟩
          have ht : H9 k.t = some (.tup (k.ms.map V.str)) := sm _ _ (by rw [upd_ne (ne_of (S7.ua k hm) S7.ud (by intro z; cases z))]; exact S7.ua k hm)
          obtain ⟨_, _, n3, _⟩ := ok.ud k hm
          refine ⟨rfl, lcT ⟨.str k.nm, rfl, .ref ut, rfl, .str k.nm, rfl, ut, _, rfl, .inl ⟨ukv us, .inr k.nm, rk, rfl, (ukv_val ok.ndu hm).symm⟩, k.t, k.ms, rfl, .inl (.inl ht), by omega, fun ys p pm so np => ⟨p, _, rfl, .inl ⟨SqL.of upd_same, fun l nl => ?_⟩⟩⟩⟩
          have s5 : Same H9 (upd (upd H9 p (.lst (ys.map V.str))) l (.tup (ys.map V.str))) := (same_new np).trans (same_new nl)
          have eD5 := s5 _ _ eD
          have el : (upd (upd H9 p (.lst (ys.map V.str))) l (.tup (ys.map V.str))) l = some (.tup (ys.map V.str)) := upd_same
          refine ⟨ukv vs, .inr k.nm, rfl, eD5, ?_, same_upd (sm.trans s5) nD, vs ++ [URow.mk k.nm l ys], ?_, ?_, ?_, ?_⟩
          · rw [show (ukv vs).length = vs.length from List.length_map ..]
            exact Nat.lt_of_le_of_lt (show vs.length ≤ 1000 by omega) (by decide)
          · rw [List.length_append, hl]; rfl
          · exact rel_snoc er hl hrel ⟨rfl, pm, so⟩
          · intro r hr
            rcases List.mem_append.mp hr with hr | hr
            · have e5 := s5 _ _ (hat r hr)
              rw [upd_ne (ne_of e5 eD5 (by intro z; cases z))]
              exact e5
            · obtain rfl := List.mem_singleton.mp hr
              rw [upd_ne (ne_of el eD5 (by intro z; cases z))]
              exact el
          · rw [upd_same]
            have hn : k.nm ∉ vs.map (fun k : URow => k.nm) := by
              rw [rel_names (f := fun k : URow => k.nm) hl (by omega) (fun j a b ea eb => (hrel j a b ea eb).1)]
              exact name_new ok.ndu er
            exact congrArg (fun z => some (HO.dK z)) (put_snoc (f := fun k : URow => k.nm) (g := fun k => V.ref k.t) (r := URow.mk k.nm l ys) hn)
        · rintro H8 ⟨sm, vs, hl, hrel, hat, eD⟩
          refine ⟨sm _ _ upd_same, ?_⟩
          have nDk : Dc ≠ ut := fun z => by rw [z, upd_same] at nD; cases nD
          have su : Same H7 (upd H8 ut (.dK (ukv us))) := same_unlock S7.ud sm
          have eD' : (upd H8 ut (.dK (ukv us))) Dc = some (.dK (ukv vs)) := by rw [upd_ne nDk]; exact eD
          have hat' : ∀ r ∈ vs, (upd H8 ut (.dK (ukv us))) r.t = some (.tup (r.ms.map V.str)) := fun r m => by
            rw [upd_ne (ne_of (hat r m) (sm _ _ upd_same) (by intro z; cases z))]
            exact hat r m
          have hx8 := su _ _ hx7
          generalize upd H8 ut (.dK (ukv us)) = H9 at su eD' hat' hx8
          refine ⟨.ref x, rfl, x, C, dx, _, rfl, hx8, L.cl, L.nu, by show 2 < 1000; decide, ?_⟩
          refine ⟨.str root, rfl, .ref x, rfl, x, C, dx, _, rfl, upd_same, L.cl, L.nr, by rw [pf3]; show 3 < 1000; decide, ?_⟩
          have gx : Gr x H9 (upd (upd H9 x (.ins C dx (putF "union_table" (.ref Dc) [(("kind_table" : Str), V.ref Da), ("face_table", V.ref Db)]))) x (.ins C dx (putF "root" (.str root) (putF "union_table" (.ref Dc) [(("kind_table" : Str), V.ref Da), ("face_table", V.ref Db)])))) := Gr.box.trans Gr.box
          refine q _ ((g7.trans (gr_x su)).trans gx) ⟨dx, Da, Db, Dc, rs, ts, vs, ?_, ⟨?_, ?_, ?_, ?_, ?_, ?_⟩, relk, relf, ⟨by omega, hrel⟩⟩
          · rw [upd_same, pf3, pf4]
          · exact gx _ _ ((Oth.ins hx8).ned (su _ _ eDa7)) (su _ _ eDa7)
          · exact gx _ _ ((Oth.ins hx8).ned (su _ _ eDb7)) (su _ _ eDb7)
          · exact gx _ _ ((Oth.ins hx8).ned eD') eD'
          · exact fun r m => ((hatk7 r m).same su).gr (Oth.ins hx8) gx
          · exact fun r m => ((hatf7 r m).same su).gr (Oth.ins hx8) gx
          · exact fun r m => gx _ _ ((Oth.ins hx8).net (hat' r m)) (hat' r m)
end
end NW
namespace NW
open PySem PySem.Spec PyProof.Rows L2
abbrev s_Lbox : Stmt := topS 37
abbrev N_Lbox : List Str := ["_law_script"]
theorem sc_Lbox : FnScope N_Lbox ["_law_script"] (defScope s_Lbox) := ⟨rfl, rfl, rfl, by decide +kernel, rfl, by decide +kernel, by decide +kernel⟩
abbrev s_Ldraw : Stmt := topS 38
abbrev N_Ldraw : List Str := ["_law_box_here", "_law_many", "_law_cell", "_law_digit", "_law_number"]
theorem sc_Ldraw : FnScope N_Ldraw ["_law_box_here", "_law_many"] (defScope s_Ldraw) := ⟨rfl, rfl, rfl, by decide +kernel, rfl, by decide +kernel, by decide +kernel⟩
section
variable {P : Program} {w : World} {K : PySem.W.Frag} {mg : Str → Option Value} {base : Heap}
def spLbox (K : PySem.W.Frag) : Sp := fun vs H Q _ => ∃ (a : Addr) (ns : List Int), vs = [.ref a] ∧ SqL K H a (ns.map V.int) ∧ ns.length ≤ 63 ∧ ∀ H' b r, Same H H' → H b = none → H r = none → Box H' b r → Q (.ref b) H'
theorem ok_Lbox {f : Addr} {fd : FuncData} (D : Df K mg "_law_box" s_Lbox f fd ["_law_script"]) (T : Nms mg) : FnOk P w K mg base CX0 1 f fd ["_law_script"] (spLbox K) := by
  refine D.F.ok sc_Lbox (fun vs H Q E h => ?_) (fun cdv A outer s H vs Q E hr h => ?_)
  · obtain ⟨a, ns, rfl, _⟩ := h
    rfl
  · obtain ⟨a, ns, rfl, hS, hlen, q⟩ := h
    refine ⟨_, (pss_one (ps_ret (pe_lst (pa_cons (pe_callTy call_list_of (by rfl) T.n_list (by decide +kernel) (pa_cons (pe_slice sl_list (pv 0) po_none (po_some pe_int)) pa_nil)) (pa_cons pe_int (pa_cons pe_int (pa_cons pe_int (pa_cons pe_int pa_nil)))))))), ?_⟩
    refine ⟨.ref a, rfl, 63, rfl, a, _, rfl, hS, fun p np => ?_⟩
    refine ⟨p, _, rfl, .inl (SqL.of upd_same), fun l nl => ?_⟩
    refine ⟨by show 5 ≤ sizeLine; decide, fun b nb => ?_⟩
    have e1 : cutV (ns.map V.int) none (some 63) = ns.map V.int := by
      unfold cutV
      rw [show HT.sIx (ns.map V.int).length (ns.map V.int).length (some 63) = min 63 (ns.map V.int).length from HT.sIx_nat _ _ 63, HT.sIx_none]
      rw [List.length_map, Nat.min_eq_right hlen, List.drop_zero, Nat.sub_zero]
      exact List.take_of_length_le (by rw [List.length_map]; exact Nat.le_refl _)
    rw [e1] at nl nb ⊢
    have nlp : l ≠ p := fun e => by rw [e, upd_same] at nl; cases nl
    have nbl : b ≠ l := fun e => by rw [e, upd_same] at nb; cases nb
    have nbp : b ≠ p := fun e => by rw [e, upd_ne nlp.symm, upd_same] at nb; cases nb
    have nb0 : H b = Option.none := by rw [upd_ne nbl, upd_ne nbp] at nb; exact nb
    have nl0 : H l = Option.none := by rw [upd_ne nlp] at nl; exact nl
    refine q _ b l (fun c o e => ?_) nb0 nl0 ⟨ns, 0, 0, 1, 0, upd_same, ?_, nbl.symm, hlen, Int.le_refl _, by decide, by decide⟩
    · rw [upd_ne (ne_of_none e nb0), upd_ne (ne_of_none e nl0), upd_ne (ne_of_none e np)]
      exact e
    · rw [upd_ne nbl.symm, upd_same]
def spLdraw : Sp := fun vs H Q _ => ∃ (b r : Addr) (m : Int), vs = [.ref b, .int m] ∧ Box H b r ∧ 0 < m ∧ m < 1073741824 ∧ ∀ v H', 0 ≤ v → v < m → Gr b H H' → Box H' b r → Q (.int v) H'
theorem fmod_range {a m : Int} (h : 0 < m) : 0 ≤ a.fmod m ∧ a.fmod m < m := ⟨Int.fmod_nonneg_of_pos a h, Int.fmod_lt_of_pos a h⟩
theorem ok_Ldraw {f : Addr} {fd : FuncData} (D : Df K mg "_law_draw" s_Ldraw f fd ["_law_box_here", "_law_many"]) (T : Nms mg) : FnOk P w K mg base CX0 1 f fd ["_law_box_here", "_law_many"] spLdraw := by
  refine D.F.ok sc_Ldraw (fun vs H Q E h => ?_) (fun cdv A outer s H vs Q E hr h => ?_)
  · obtain ⟨b, r, m, rfl, _⟩ := h
    rfl
  · obtain ⟨b, r, m, rfl, ⟨ns, i, g, z, c, W⟩, m0, m1, q⟩ := h
    refine ⟨_, (pss_cons (ps_asg (pe_op op_add (pe_ix ix_list (pv 0) pe_int (fun _ _ => rfl)) pe_int) (pg_sub (pv 0) pe_int set_list))
      (pss_cons (ps_if (PW.pt (pw_and (pt_cmpR op_eq (pe_ix ix_list (pv 0) pe_int (fun _ _ => rfl)) pe_int (nomark _)) (pw_and1 (pt_cmpR op_lt (pe_ix ix_list (pv 0) pe_int (fun _ _ => rfl)) (pe_callB call_len_seq (by rfl) T.n_len PySem.boot_len (pa_cons (pe_ix ix_list (pv 0) pe_int (fun _ _ => rfl)) pa_nil)) (nomark _)))))
       (pss_cons (ps_set (i := 2) sc_Ldraw.nd rfl (.inl rfl) (pe_ix ix_list (pe_ix ix_list (pv 0) pe_int (fun _ _ => rfl)) (pe_ix ix_list (pv 0) pe_int (fun _ _ => rfl)) (fun _ _ => rfl)))
        (pss_cons (ps_asg (pe_op op_add (pe_ix ix_list (pv 0) pe_int (fun _ _ => rfl)) pe_int) (pg_sub (pv 0) pe_int set_list))
        (pss_one (ps_if (pt_cmpR op_ge (pv 2) (pe_op op_pow pe_int pe_int) (nomark _))
         (pss_one (ps_asg (pv 2) (pg_sub (pv 0) pe_int set_list)))
         (pss_one (ps_asg (pe_op op_modN (pe_callTy call_int1 (by rfl) T.n_int (by decide +kernel) (pa_cons (pe_op op_add (pe_op op_add (pe_op op_mul (pe_ix ix_list (pv 0) pe_int (fun _ _ => rfl)) pe_int) (pe_op op_mul (pe_op op_modN (pe_callTy call_int1 (by rfl) T.n_int (by decide +kernel) (pa_cons (pv 2) pa_nil)) pe_int) pe_int)) pe_int) pa_nil)) pe_int) (pg_sub (pv 0) pe_int set_list)))))))
       pss_nil)
      (pss_cons (ps_if (pt_cmpR op_gt (pe_ix ix_list (pv 0) pe_int (fun _ _ => rfl)) pe_int (nomark _))
       (pss_cons (ps_set (i := 3) sc_Ldraw.nd rfl (.inl rfl) (pe_op op_modN (pe_callTy call_int1 (by rfl) T.n_int (by decide +kernel) (pa_cons (pe_ix ix_list (pv 0) pe_int (fun _ _ => rfl)) pa_nil)) (pv 1)))
        (pss_cons (ps_asg (pe_op op_fdivN (pe_ix ix_list (pv 0) pe_int (fun _ _ => rfl)) (pv 1)) (pg_sub (pv 0) pe_int set_list))
        (pss_one (ps_ret (pv 3)))))
       pss_nil)
      (pss_cons (ps_asg (pe_op op_modN (pe_callTy call_int1 (by rfl) T.n_int (by decide +kernel) (pa_cons (pe_op op_add (pe_op op_add (pe_op op_mul (pe_ix ix_list (pv 0) pe_int (fun _ _ => rfl)) pe_int) (pe_op op_mul (pe_ix ix_list (pv 0) pe_int (fun _ _ => rfl)) pe_int)) pe_int) pa_nil)) pe_int) (pg_sub (pv 0) pe_int set_list))
      (pss_cons (ps_set (i := 4) sc_Ldraw.nd rfl (.inl rfl) (pe_op op_modN (pe_callTy call_int1 (by rfl) T.n_int (by decide +kernel) (pa_cons (pe_op op_add (pe_op op_mul (pe_ix ix_list (pv 0) pe_int (fun _ _ => rfl)) (pe_op op_add (pe_op op_mul (pe_ix ix_list (pv 0) pe_int (fun _ _ => rfl)) pe_int) pe_int)) (pe_ix ix_list (pv 0) pe_int (fun _ _ => rfl))) pa_nil)) pe_int))
      (pss_cons (ps_set (i := 4) sc_Ldraw.nd rfl (.inl rfl) (pe_op op_modN (pe_callTy call_int1 (by rfl) T.n_int (by decide +kernel) (pa_cons (pe_op op_mul (pv 4) (pe_op op_add (pe_op op_fdivN (pv 4) pe_int) pe_int)) pa_nil)) pe_int))
      (pss_one (ps_ret (pe_op op_modN (pe_callTy call_int1 (by rfl) T.n_int (by decide +kernel) (pa_cons (pe_op op_fdivN (pv 4) pe_int) pa_nil)) (pv 1)))))))))), ?_⟩
    refine cut2 (fun σ2 H2 => ∃ i g z c y2, σ2 = [some (.ref b), some (.int m), y2, none, none] ∧ Gr b H H2 ∧ BoxW H2 b r ns i g z c) ?_ (fun rest => ?_)
    · rintro σ2 H2 ⟨i, g, z, c, y2, rfl, gr, W⟩
      -- if box[2] > 0
      refine ⟨.ref b, rfl, b, _, 2, _, rfl, rfl, W.sq, at2, _, _, rfl, rfl, _, rfl, ite2 (fun e => ?_) (fun e => ?_)⟩
      · refine ⟨.ref b, rfl, b, _, 2, _, rfl, rfl, W.sq, at2, .inl ⟨_, rfl, _, rfl, _, _, rfl, rfl, Int.ne_of_gt m0, ?_⟩⟩
        refine ⟨.ref b, rfl, b, _, 2, _, rfl, rfl, W.sq, at2, _, rfl, _, _, rfl, rfl, ⟨Int.ne_of_gt m0, by omega⟩, .ref b, rfl, b, _, 2, 2, rfl, rfl, W.at_, rfl, ?_⟩
        have W1 := W.set (i' := i) (g' := g.fdiv m) (z' := z) (c' := c) W.i0 W.z0 W.z1
        exact ⟨_, rfl, q _ _ (fmod_range m0).1 (fmod_range m0).2 (gr.trans Gr.box) ⟨_, _, _, _, _, W1⟩⟩
      · -- box[3] = ..
        refine ⟨.ref b, rfl, b, _, 3, _, rfl, rfl, W.sq, at3, _, _, rfl, rfl, .inr ⟨by decide, by decide⟩, ?_⟩
        refine ⟨.ref b, rfl, b, _, 4, _, rfl, rfl, W.sq, at4, _, _, rfl, rfl, .inr ⟨by decide, by decide⟩, _, _, rfl, rfl, _, _, rfl, rfl, .inl ⟨_, rfl, _, _, rfl, rfl, nz rfl, ?_⟩⟩
        refine ⟨.ref b, rfl, b, _, 3, 3, rfl, rfl, W.at_, rfl, ?_⟩
        have hz := fmod_range (a := z * 48271 + c * 69621 + 1) (show (0 : Int) < 2147483629 by decide)
        have W1 := W.set (i' := i) (g' := g) (z' := (z * 48271 + c * 69621 + 1).fmod 2147483629) (c' := c) W.i0 hz.1 (by omega)
        have g1 := gr.trans (Gr.box (b := b) (H := H2) (o := .lst (bl r i g ((z * 48271 + c * 69621 + 1).fmod 2147483629) c)))
        -- number = int(box[3] * (box[4] * 7919 + 17) + box[4]) % 2147483399
        refine ⟨.ref b, rfl, b, _, 3, _, rfl, rfl, W1.sq, at3, .ref b, rfl, b, _, 4, _, rfl, rfl, W1.sq, at4, _, _, rfl, rfl, .inr ⟨by decide, by decide⟩, _, _, rfl, rfl, _, _, rfl, rfl, .inl ⟨by omega, by omega⟩, ?_⟩
        refine ⟨.ref b, rfl, b, _, 4, _, rfl, rfl, W1.sq, at4, _, _, rfl, rfl, .inl ⟨_, rfl, _, _, rfl, rfl, nz rfl, ?_⟩⟩
        have hn1 := fmod_range (a := (((z * 48271 + c * 69621 + 1).fmod 2147483629) * (c * 7919 + 17) + c)) (show (0 : Int) < 2147483399 by decide)
        -- number = int(number * (number // 1009 + 40692)) % 2147483647
        refine ⟨_, rfl, _, rfl, _, _, rfl, rfl, ⟨by decide, by decide⟩, _, _, rfl, rfl, _, _, rfl, rfl, .inl ⟨by omega, by omega⟩, .inl ⟨_, rfl, _, _, rfl, rfl, nz rfl, ?_⟩⟩
        -- return int(number // 8191) % many
        refine ⟨_, rfl, _, _, rfl, rfl, ⟨by decide, by decide⟩, .inl ⟨_, rfl, .int m, rfl, _, _, rfl, rfl, Int.ne_of_gt m0, ?_⟩⟩
        exact q _ _ (fmod_range m0).1 (fmod_range m0).2 g1 ⟨_, _, _, _, _, W1⟩
    refine ⟨.ref b, rfl, b, _, 4, _, rfl, rfl, W.sq, at4, c, 1, rfl, rfl, .ref b, rfl, b, _, 4, 4, rfl, rfl, W.at_, rfl, ?_⟩
    have W1 := W.set (i' := i) (g' := g) (z' := z) (c' := c + 1) W.i0 W.z0 W.z1
    have g1 : Gr b H (upd H b (.lst (bl r i g z (c + 1)))) := Gr.box
    -- if box[2] == 0 and box[1] < len(box[0])
    refine ⟨.ref b, rfl, b, _, 2, _, rfl, rfl, W1.sq, at2, rfl, _, rfl, ite2 (fun e => ?_) (fun e => ?_)⟩
    · refine ⟨.ref b, rfl, b, _, 1, _, rfl, rfl, W1.sq, at1, .ref b, rfl, b, _, 0, _, rfl, rfl, W1.sq, at0, r, _, rfl, .inl (SqL.of W1.lst), _, _, rfl, rfl, _, rfl, ite2 (fun e => ?_) (fun e => ?_)⟩
      · -- cell = box[0][box[1]]
        have ei : i < (ns.map V.int).length := of_decide_eq_true e
        rw [List.length_map] at ei
        obtain ⟨j, rfl⟩ := Int.eq_ofNat_of_zero_le W.i0
        have hj : j < ns.length := by omega
        have gj : atI (ns.map V.int) (j : Int) = some (.int ns[j]) := atI_nat (by rw [List.getElem?_map, List.getElem?_eq_getElem hj]; rfl)
        refine ⟨.ref b, rfl, b, _, 0, _, rfl, rfl, W1.sq, at0, .ref b, rfl, b, _, 1, _, rfl, rfl, W1.sq, at1, r, _, _, _, rfl, rfl, SqL.of W1.lst, gj, ?_⟩
        -- box[1] = box[1] + 1
        refine ⟨.ref b, rfl, b, _, 1, _, rfl, rfl, W1.sq, at1, _, 1, rfl, rfl, .ref b, rfl, b, _, 1, 1, rfl, rfl, W1.at_, rfl, ?_⟩
        have W2 := W1.set (i' := (j : Int) + 1) (g' := g) (z' := z) (c' := c + 1) (by omega) W.z0 W.z1
        have g2 := g1.trans (Gr.box (b := b) (H := upd H b (.lst (bl r j g z (c + 1)))) (o := .lst (bl r ((j : Int) + 1) g z (c + 1))))
        -- if cell >= 10 ** 18
        refine ⟨.int ns[j], rfl, _, _, rfl, rfl, ⟨by decide, by decide, by decide⟩, _, _, rfl, rfl, _, rfl, ite2 (fun e => ?_) (fun e => ?_)⟩
        · refine ⟨.int ns[j], rfl, .ref b, rfl, b, _, 2, 2, rfl, rfl, W2.at_, rfl, ?_⟩
          have W3 := W2.set (i' := (j : Int) + 1) (g' := ns[j]) (z' := z) (c' := c + 1) (by omega) W.z0 W.z1
          exact rest _ _ ⟨_, _, _, _, some (.int ns[j]), rfl, g2.trans Gr.box, W3⟩
        · refine ⟨.ref b, rfl, b, _, 3, _, rfl, rfl, W2.sq, at3, _, _, rfl, rfl, .inr ⟨by decide, by decide⟩, ?_⟩
          refine ⟨.int ns[j], rfl, .inl ⟨_, rfl, _, _, rfl, rfl, nz rfl, _, _, rfl, rfl, .inr ⟨by decide, by decide⟩, _, _, rfl, rfl, _, _, rfl, rfl, .inl ⟨_, rfl, _, _, rfl, rfl, nz rfl, ?_⟩⟩⟩
          refine ⟨.ref b, rfl, b, _, 3, 3, rfl, rfl, W2.at_, rfl, ?_⟩
          have hz := fmod_range (a := z * 48271 + (ns[j]).fmod 1000003 * 69621 + 7919) (show (0 : Int) < 2147483647 by decide)
          have W3 := W2.set (i' := (j : Int) + 1) (g' := g) (z' := (z * 48271 + (ns[j]).fmod 1000003 * 69621 + 7919).fmod 2147483647) (c' := c + 1) (by omega) hz.1 (by omega)
          exact rest _ _ ⟨_, _, _, _, some (.int ns[j]), rfl, g2.trans Gr.box, W3⟩
      · exact rest _ _ ⟨_, _, _, _, none, rfl, g1, W1⟩
    · exact rest _ _ ⟨_, _, _, _, none, rfl, g1, W1⟩
end
end NW
namespace NW
open PySem PySem.Spec PyProof.Rows L2
open TL (tl)
open StX (pa_star)
abbrev s_Lshape : Stmt := topS 40
abbrev N_Lshape : List Str := ["_law_box_here", "_law_bases_here", "_law_most", "_law_shape_here", "_law_lists", "_law_k", "_law_sure"]
theorem sc_Lshape : FnScope N_Lshape ["_law_box_here", "_law_bases_here", "_law_most"] (defScope s_Lshape) := ⟨rfl, rfl, rfl, by decide +kernel, rfl, by decide +kernel, by decide +kernel⟩
theorem okS_mono {l : List Str} : ∀ {s : Shp} {n m : Nat} {o : Bool}, n ≤ m → okS l n o s → okS l m o s := by
  intro s
  induction s with
  | base z =>
    intro n m o _ h
    cases n <;> cases m <;> exact h
  | sure s ih =>
    intro n m o hl h
    cases n with
    | zero => exact h.elim
    | succ n =>
      cases m with
      | zero => omega
      | succ m => exact ⟨h.1, ih (by omega) h.2⟩
  | list s ih =>
    intro n m o hl h
    cases n with
    | zero => exact h.elim
    | succ n =>
      cases m with
      | zero => omega
      | succ m => exact ih (by omega) (show okS l n false s from h)
def Shp.isSure : Shp → Bool
  | .sure _ => true
  | _ => false
theorem okS_un {l : List Str} {n : Nat} {s : Shp} (h : okS l n false s) (hs : s.isSure = false) : okS l n true s := by
  cases s with
  | base z => cases n <;> exact h
  | sure s => cases hs
  | list s => cases n <;> exact h
section
variable {P : Program} {w : World} {K : PySem.W.Frag} {mg : Str → Option Value} {base : Heap}

def spLshape : Sp := fun vs H Q _ => ∃ (b r bs : Addr) (l : List Str) (m : Nat), vs = [.ref b, .ref bs, .int m] ∧ Box H b r ∧ H bs = some (.lst (l.map V.str)) ∧ bs ≠ b ∧ 0 < l.length ∧ l.length ≤ 1000 ∧ m ≤ 4 ∧
  ∀ v s H', ShAt H' v s → okS l 4 false s → Gr b H H' → Box H' b r → Q v H'
theorem ok_Lshape {f f1 : Addr} {fd fd1 : FuncData} (D : Df K mg "_law_shape" s_Lshape f fd ["_law_box_here", "_law_bases_here", "_law_most"]) (D_Ldraw : Df K mg "_law_draw" s_Ldraw f1 fd1 ["_law_box_here", "_law_many"]) (T : Nms mg) : FnOk P w K mg base CX0 2 f fd ["_law_box_here", "_law_bases_here", "_law_most"] spLshape := by
  have G_Ldraw : FnOk P w K mg base CX0 1 f1 fd1 ["_law_box_here", "_law_many"] spLdraw := ok_Ldraw D_Ldraw T
  refine D.F.ok sc_Lshape (fun vs H Q E h => ?_) (fun cdv A outer s H vs Q E hr h => ?_)
  · obtain ⟨b, r, bs, l, m, rfl, _⟩ := h
    rfl
  · obtain ⟨b, r, bs, l, m, rfl, B, hbs, nbs, l0, l1, hm, q⟩ := h
    refine ⟨_, (pss_cons (ps_set (i := 3) sc_Lshape.nd rfl (.inl rfl) (pe_ix ix_list (pv 1) (pe_call G_Ldraw (hr.mono (by decide)) (by rfl) D_Ldraw.g D_Ldraw.F.kp D_Ldraw.b .nil pass0 (pa_cons (pv 0) (pa_cons (pe_callB call_len_seq (by rfl) T.n_len (by decide +kernel) (pa_cons (pv 1) pa_nil)) pa_nil))) (fun _ _ => rfl)))
      (pss_cons (ps_set (i := 4) sc_Lshape.nd rfl (.inl rfl) pe_int)
      (pss_cons (ps_for PassesOwn.never rfl (pi_range1 (by rfl) T.n_range (pa_cons (pe_call G_Ldraw (hr.mono (by decide)) (by rfl) D_Ldraw.g D_Ldraw.F.kp D_Ldraw.b .nil pass0 (pa_cons (pv 0) (pa_cons (pe_op op_add (pv 2) pe_int) pa_nil))) pa_nil)) (pg_name (i := 5) sc_Lshape.nd rfl (.inl rfl))
       (pss_cons (ps_set (i := 6) sc_Lshape.nd rfl (.inl rfl) (pe_and (pe_not (pe_callB call_isi (by rfl) T.n_isinstance (by decide +kernel) (pa_cons (pv 3) (pa_cons (pe_bltn (v := .ty "str") (by rfl) T.n_str (by decide +kernel) rfl) pa_nil)))) (pe_one (pe_cmpR op_eq (pe_ix ix_tup (pv 3) pe_int (fun _ _ => rfl)) pe_str (nomark _)))))
        (pss_one (ps_if (PW.pt (pw_and (pt_not (pt_val (pv 6))) (pw_and1 (pt_cmpR op_eq (pe_call G_Ldraw (hr.mono (by decide)) (by rfl) D_Ldraw.g D_Ldraw.F.kp D_Ldraw.b .nil pass0 (pa_cons (pv 0) (pa_cons pe_int pa_nil))) pe_int (nomark _)))))
         (pss_one (ps_set (i := 3) sc_Lshape.nd rfl (.inl rfl) (pe_tup (pa_cons pe_str (pa_cons (pv 3) pa_nil)))))
         (pss_one (ps_if (PW.pt (pw_or (pt_cmpR op_lt (pv 4) pe_int (nomark _)) (pw_or1 (pt_cmpR op_eq (pv 2) pe_int (nomark _)))))
           (pss_cons (ps_set (i := 3) sc_Lshape.nd rfl (.inl rfl) (pe_tup (pa_cons pe_str (pa_cons (pv 3) pa_nil))))
            (pss_one (ps_set (i := 4) sc_Lshape.nd rfl (.inl rfl) (pe_op op_add (pv 4) pe_int))))
           pss_nil))))))
      (pss_one (ps_ret (pv 3)))))), ?_⟩
    -- the base
    refine ⟨.ref bs, rfl, .ref b, rfl, .ref bs, rfl, bs, _, rfl, .inl (SqL.of hbs), b, r, (l.length : Int), ?_, B, by omega, by omega, fun d H1 d0 d1 g1 B1 => ?_⟩
    · show [V.ref b, V.int ((l.map V.str).length : Int)] = [V.ref b, V.int (l.length : Int)]
      rw [List.length_map]
    obtain ⟨d, rfl⟩ := Int.eq_ofNat_of_zero_le d0
    have hd : d < l.length := by omega
    refine ⟨bs, _, d, .str l[d], rfl, rfl, SqL.of (g1 _ _ nbs hbs), atI_nat (by rw [List.getElem?_map, List.getElem?_eq_getElem hd]; rfl), ?_⟩
    -- range(draw(most + 1))
    refine ⟨.ref b, rfl, .int m, rfl, _, _, rfl, rfl, b, r, ((m : Int) + 1), rfl, B1, by omega, by omega, fun n H2 n0 n1 g2 B2 => ?_⟩
    obtain ⟨n, rfl⟩ := Int.eq_ofNat_of_zero_le n0
    have hn : n ≤ m := by omega
    refine ⟨n, rfl, by omega, by omega, for_range (lo := 0) (n := n) (fun i σ H' => ∃ (v : V) (s : Shp) (c : Nat) (y5 y6 : Option V), σ = [some (.ref b), some (.ref bs), some (.int m), some v, some (.int c), y5, y6] ∧ ShAt H' v s ∧ okS l i false s ∧ Gr b H H' ∧ Box H' b r) ?_ ?_ ?_⟩
    · exact ⟨_, .base l[d], 0, none, none, rfl, rfl, List.getElem_mem hd, g1.trans g2, B2⟩
    · rintro i σ H3 hi ⟨v, s, c, y5, y6, rfl, hv, hs, g3, B3⟩
      refine cut1 (fun σ' H' => σ' = [some (.ref b), some (.ref bs), some (.int m), some v, some (.int c), some (.int (0 + i)), some (.bl s.isSure)] ∧ H3 = H') ?_ (fun rest => ?_)
      · rintro σ' H' ⟨rfl, rfl⟩
        have hvs : ∀ {H5 : Hp}, Gr b H3 H5 → ShAt H5 v s := fun g => by
          obtain ⟨xs, e⟩ := B3.lst
          exact hv.grO (Oth.lst e) g
        refine cutE (fun σ' H' => σ' = [some (.ref b), some (.ref bs), some (.int m), some v, some (.int c), some (.int (0 + i)), some (.bl s.isSure)] ∧ Gr b H3 H' ∧ Box H' b r) ?_ (fun els => ?_)
        · rintro σ' H5 ⟨rfl, g5, B5⟩
          have go : ∀ p, H5 p = none → ∃ (v' : V) (s' : Shp) (c' : Nat) (y5 y6 : Option V), ([some (V.ref b), some (V.ref bs), some (V.int m), some (V.ref p), some (V.int ((c : Int) + 1)), some (V.int (0 + i)), some (V.bl s.isSure)] : L2.St) = [some (V.ref b), some (V.ref bs), some (V.int m), some v', some (V.int c'), y5, y6] ∧ ShAt (upd H5 p (.tup [.str "list", v])) v' s' ∧ okS l (i + 1) false s' ∧ Gr b H (upd H5 p (.tup [.str "list", v])) ∧ Box (upd H5 p (.tup [.str "list", v])) b r :=
            fun p np => ⟨_, .list s, c + 1, _, _, rfl, ⟨p, v, rfl, upd_same, hvs (g5.trans (Gr.new np))⟩, hs, (g3.trans g5).trans (Gr.new np), B5.new np⟩
          refine ⟨.int c, rfl, _, _, rfl, rfl, _, rfl, ite2 (fun e => ?_) (fun e => ?_)⟩
          · refine iteT ⟨v, rfl, by show 2 ≤ sizeLine; decide, fun p np => ⟨.int c, rfl, _, _, rfl, rfl, go p np⟩⟩
          · refine ⟨.int m, rfl, rfl, _, rfl, ite2 (fun e => ?_) (fun e => ?_)⟩
            · exact ⟨v, rfl, by show 2 ≤ sizeLine; decide, fun p np => ⟨.int c, rfl, _, _, rfl, rfl, go p np⟩⟩
            · exact ⟨v, s, c, _, _, rfl, hvs g5, okS_mono (by omega) hs, g3.trans g5, B5⟩
        · cases hsu : s.isSure with
          | true =>
            rw [hsu] at els
            exact ⟨_, rfl, true, rfl, iteF (els _ _ ⟨rfl, Gr.refl, B3⟩)⟩
          | false =>
            rw [hsu] at els
            refine ⟨_, rfl, false, rfl, iteT ⟨.ref b, rfl, b, r, 2, rfl, B3, by decide, by decide, fun d H4 d0 d1 g4 B4 => ⟨rfl, _, rfl, ite2 (fun e => ?_) (fun e => ?_)⟩⟩⟩
            · exact ⟨v, rfl, by show 2 ≤ sizeLine; decide, fun p np => ⟨_, .sure s, c, _, _, rfl, ⟨p, v, rfl, upd_same, hvs (g4.trans (Gr.new np))⟩, ⟨rfl, okS_un hs hsu⟩, (g3.trans g4).trans (Gr.new np), B4.new np⟩⟩
            · exact els _ _ ⟨rfl, g4, B4⟩
      · cases s with
        | base z =>
          obtain rfl := hv
          exact ⟨.str z, rfl, _, _, _, _, true, rfl, .ty "str", .base (.str z), kit_ty (by decide +kernel), true, rfl, false, rfl, iteF (rest _ _ ⟨rfl, rfl⟩)⟩
        | sure s =>
          obtain ⟨a, u, rfl, ha, hu⟩ := hv
          refine ⟨.ref a, rfl, _, _, _, _, false, rfl, .ty "str", .base (.tup ha), kit_ty (by decide +kernel), false, rfl, true, rfl, iteT ⟨.ref a, rfl, a, _, 0, _, rfl, rfl, .inl (.inl ha), atI_nat (j := 0) rfl, rfl, ?_⟩⟩
          rw [decide_eq_true rfl]
          exact rest _ _ ⟨rfl, rfl⟩
        | list s =>
          obtain ⟨a, u, rfl, ha, hu⟩ := hv
          refine ⟨.ref a, rfl, _, _, _, _, false, rfl, .ty "str", .base (.tup ha), kit_ty (by decide +kernel), false, rfl, true, rfl, iteT ⟨.ref a, rfl, a, _, 0, _, rfl, rfl, .inl (.inl ha), atI_nat (j := 0) rfl, rfl, ?_⟩⟩
          rw [decide_eq_false (show ¬ (V.str "list" = V.str "sure") by decide +kernel)]
          exact rest _ _ ⟨rfl, rfl⟩
    · rintro σ H3 ⟨v, s, c, y5, y6, rfl, hv, hs, g3, B3⟩
      exact ⟨v, rfl, q v s H3 hv (okS_mono (by omega) hs) g3 B3⟩
end
end NW
namespace NW
open PySem PySem.Spec PyProof.Rows L2
section
variable {X : Cx}
/-- a dict against an empty one -/
theorem op_eq_dict0 (hu : X.A.units < cLine) : OpR X (compareOp .Eq) (fun x y H Q => ∃ (a b : Addr) (kvs : List (Key × V)), x = .ref a ∧ y = .ref b ∧ H a = some (.dK kvs) ∧ H b = some (.dK []) ∧ Q (.bl (kvs.length == 0)) H) := by
  intro pins s σ H x y v u Q I rx ry h
  obtain ⟨a, b, kvs, rfl, rfl, ea, eb, q⟩ := h
  cases rx
  cases ry
  have oa : ObjOk X.prog X.w H s.heap a (.dK kvs) := I.hok a _ ea
  have ob : ObjOk X.prog X.w H s.heap b (.dK []) := I.hok b _ eb
  obtain ⟨_, na, ua, pa, da⟩ := oa
  obtain ⟨_, nb, ub, pb, db⟩ := ob
  have la := pa.length
  have lb := pb.length
  refine PySem.W.keq_eq (knd := mixKind X.prog X.w) (r := true) na nb da db hu (fun e => hits_all pb pa fun p hp => ?_) (fin_bl I q ?_)
  · have : kvs.length = 0 := by
      rw [la, e, ← lb]
      rfl
    rw [List.length_eq_zero_iff.mp this] at hp
    cases hp
  · rw [← la, ← lb]
    simp
end
/-- fewer different things than there are in a list that holds them all -/
theorem len_le_of_sub {α : Type} [DecidableEq α] : ∀ {l m : List α}, l.Nodup → (∀ x ∈ l, x ∈ m) → l.length ≤ m.length
  | [], _, _, _ => Nat.zero_le _
  | a :: r, m, nd, h => by
    have hn := List.nodup_cons.mp nd
    have ha : a ∈ m := h a List.mem_cons_self
    have ih := len_le_of_sub (l := r) (m := m.erase a) hn.2 fun x hx => (List.mem_erase_of_ne (fun e => hn.1 (by rw [← e]; exact hx))).mpr (h x (List.mem_cons_of_mem _ hx))
    rw [List.length_erase_of_mem ha] at ih
    have := List.length_pos_of_mem ha
    rw [List.length_cons]
    omega
/-! ### one field more, or one given anew -/
def putFl (fs : List Fld) (f : Fld) : List Fld := if f.1 ∈ fs.map (·.1) then fs.map (fun x => if x.1 = f.1 then f else x) else fs ++ [f]
theorem putFl_kv (fs : List Fld) (f : Fld) : putK (fkv fs) (Sum.inr f.1) f.2.1 = fkv (putFl fs f) := by
  unfold putFl
  by_cases h : f.1 ∈ fs.map (·.1)
  · rw [if_pos h]
    unfold putK
    have e : ((fkv fs).any fun kv => decide (kv.1 = (Sum.inr f.1 : Key))) = true := by
      obtain ⟨x, hx, ex⟩ := List.mem_map.mp h
      exact List.any_eq_true.mpr ⟨_, List.mem_map.mpr ⟨x, hx, rfl⟩, decide_eq_true (congrArg Sum.inr ex)⟩
    rw [if_pos e]
    unfold fkv
    rw [List.map_map, List.map_map]
    refine List.map_congr_left fun x _ => ?_
    show (if (Sum.inr x.1 : Key) = Sum.inr f.1 then ((Sum.inr x.1 : Key), f.2.1) else ((Sum.inr x.1 : Key), x.2.1)) = _
    by_cases e2 : x.1 = f.1
    · rw [if_pos (congrArg Sum.inr e2)]
      show _ = ((Sum.inr (if x.1 = f.1 then f else x).1 : Key), (if x.1 = f.1 then f else x).2.1)
      rw [if_pos e2, e2]
    · rw [if_neg fun z => e2 (Sum.inr.inj z)]
      show _ = ((Sum.inr (if x.1 = f.1 then f else x).1 : Key), (if x.1 = f.1 then f else x).2.1)
      rw [if_neg e2]
  · rw [if_neg h]
    exact put_snoc0 h
where
  put_snoc0 {fs : List Fld} {f : Fld} (h : f.1 ∉ fs.map (·.1)) : putK (fkv fs) (Sum.inr f.1) f.2.1 = fkv (fs ++ [f]) := by
    unfold fkv
    rw [putK_new _ (valV_out (f := fun f : Fld => f.1) (g := fun f => f.2.1) h), List.map_append]
    rfl
theorem putFl_keys (fs : List Fld) (f : Fld) : (putFl fs f).map (·.1) = if f.1 ∈ fs.map (·.1) then fs.map (·.1) else fs.map (·.1) ++ [f.1] := by
  unfold putFl
  by_cases h : f.1 ∈ fs.map (·.1)
  · rw [if_pos h, if_pos h, List.map_map]
    refine List.map_congr_left fun x _ => ?_
    show (if x.1 = f.1 then f else x).1 = x.1
    split
    · rename_i e
      exact e.symm
    · rfl
  · rw [if_neg h, if_neg h, List.map_append]
    rfl
theorem putFl_nd {fs : List Fld} {f : Fld} (h : (fs.map (·.1)).Nodup) : ((putFl fs f).map (·.1)).Nodup := by
  rw [putFl_keys]
  split
  · exact h
  · rename_i n
    rw [List.nodup_append]
    exact ⟨h, by simp, fun a ha b hb e => n (by rw [List.mem_singleton.mp hb] at e; rw [← e]; exact ha)⟩
theorem putFl_mem {fs : List Fld} {f x : Fld} (h : x ∈ putFl fs f) : x = f ∨ (x ∈ fs ∧ x.1 ≠ f.1) := by
  unfold putFl at h
  split at h
  · obtain ⟨y, hy, e⟩ := List.mem_map.mp h
    split at e
    · exact .inl e.symm
    · rename_i n
      subst e
      exact .inr ⟨hy, n⟩
  · rename_i n
    rcases List.mem_append.mp h with h | h
    · exact .inr ⟨h, fun e => n (by rw [← e]; exact List.mem_map.mpr ⟨x, h, rfl⟩)⟩
    · exact .inl (List.mem_singleton.mp h)
theorem putFl_has (fs : List Fld) (f : Fld) : f ∈ putFl fs f := by
  unfold putFl
  split
  · rename_i h
    obtain ⟨x, hx, ex⟩ := List.mem_map.mp h
    exact List.mem_map.mpr ⟨x, hx, if_pos ex⟩
  · exact List.mem_append_right _ (List.mem_singleton.mpr rfl)
theorem putFl_old {fs : List Fld} {f x : Fld} (h : x ∈ fs) (n : x.1 ≠ f.1) : x ∈ putFl fs f := by
  unfold putFl
  split
  · exact List.mem_map.mpr ⟨x, h, if_neg n⟩
  · exact List.mem_append_left _ h
theorem putFl_len {fs : List Fld} {f : Fld} : (putFl fs f).length ≤ fs.length + 1 := by
  unfold putFl
  split
  · rw [List.length_map]; omega
  · rw [List.length_append]; exact Nat.le_refl _
end NW
namespace NW
open PySem PySem.Spec PyProof.Rows L2
open TL (tl)
open StX (pa_star)
abbrev s_Lkind : Stmt := topS 41
abbrev N_Lkind : List Str := ["_law_box_here", "_law_faces", "_law_names", "_law_common", "_law_bases_here", "_law_most", "_law_table_here", "_law_face", "_law_field", "_law_k"]
theorem sc_Lkind : FnScope N_Lkind ["_law_box_here", "_law_faces", "_law_names", "_law_common", "_law_bases_here", "_law_most"] (defScope s_Lkind) := ⟨rfl, rfl, rfl, by decide +kernel, rfl, by decide +kernel, by decide +kernel⟩
theorem upd_id {H : Hp} {d : Addr} {u : HO} (h : H d = some u) : upd H d u = H := by
  funext b
  by_cases e : b = d
  · subst e
    rw [upd_same, h]
  · rw [upd_ne e]
theorem upd_comm {H : Hp} {a b : Addr} {o u : HO} (h : a ≠ b) : upd (upd H a o) b u = upd (upd H b u) a o := by
  funext c
  by_cases e1 : c = b
  · subst e1
    rw [upd_same, upd_ne h.symm, upd_same]
  · rw [upd_ne e1]
    by_cases e2 : c = a
    · subst e2
      rw [upd_same, upd_same]
    · rw [upd_ne e2, upd_ne e2, upd_ne e1]
/-- the j-th name with the j-th common shape -/
def Com (nm : List Str) (cm : List (V × Shp)) (f : Fld) : Prop := ∃ j : Nat, nm[j]? = some f.1 ∧ cm[j]? = some f.2
theorem Com.eq {nm : List Str} {cm : List (V × Shp)} (nd : nm.Nodup) {f g : Fld} (hf : Com nm cm f) (hg : Com nm cm g) (e : f.1 = g.1) : f = g := by
  obtain ⟨j, h1, h2⟩ := hf
  obtain ⟨k, h3, h4⟩ := hg
  rw [e] at h1
  have : j = k := nd_ix nd h1 h3
  subst this
  rw [h2] at h4
  exact Prod.ext e (Option.some.inj h4)
/-- what the maker of kinds is given -/
structure KArg (H : Hp) (b r fl nl cl bs : Addr) (rows : List FRow) (nm : List Str) (cm : List (V × Shp)) (l : List Str) : Prop where
  B : Box H b r
  hfl : H fl = some (.lst (rows.map fun k => V.ref k.da))
  hnl : H nl = some (.lst (nm.map V.str))
  hcl : H cl = some (.lst (cm.map (·.1)))
  hbs : H bs = some (.lst (l.map V.str))
  nfl : fl ≠ b
  nnl : nl ≠ b
  ncl : cl ≠ b
  nbs : bs ≠ b
  rat : ∀ k ∈ rows, FldAt H k.da k.fds
  r3 : rows.length ≤ 3
  n5 : nm.length = 5
  nnd : nm.Nodup
  c5 : cm.length = 5
  csh : ∀ c ∈ cm, ShAt H c.1 c.2 ∧ okS l 4 false c.2
  com : ∀ k ∈ rows, ∀ f ∈ k.fds, Com nm cm f
  rnd : ∀ k ∈ rows, (k.fds.map (·.1)).Nodup
  l0 : 0 < l.length
  l1 : l.length ≤ 1000
theorem KArg.gr {H H' : Hp} {b r fl nl cl bs : Addr} {rows : List FRow} {nm : List Str} {cm : List (V × Shp)} {l : List Str} (A : KArg H b r fl nl cl bs rows nm cm l) (g : Gr b H H') (B' : Box H' b r) : KArg H' b r fl nl cl bs rows nm cm l := by
  obtain ⟨xs, e⟩ := A.B.lst
  exact ⟨B', g _ _ A.nfl A.hfl, g _ _ A.nnl A.hnl, g _ _ A.ncl A.hcl, g _ _ A.nbs A.hbs, A.nfl, A.nnl, A.ncl, A.nbs, fun k m => (A.rat k m).gr (Oth.lst e) g, A.r3, A.n5, A.nnd, A.c5, fun c m => ⟨(A.csh c m).1.grO (Oth.lst e) g, (A.csh c m).2⟩, A.com, A.rnd, A.l0, A.l1⟩
section
variable {P : Program} {w : World} {K : PySem.W.Frag} {mg : Str → Option Value} {base : Heap}

def spLkind : Sp := fun vs H Q _ => ∃ (b r fl nl cl bs : Addr) (rows : List FRow) (nm : List Str) (cm : List (V × Shp)) (l : List Str) (m : Nat), vs = [.ref b, .ref fl, .ref nl, .ref cl, .ref bs, .int m] ∧ KArg H b r fl nl cl bs rows nm cm l ∧ m ≤ 4 ∧
  ∀ (t : Addr) (fds : List Fld) H', H t = none → FldAt H' t fds → 1 ≤ fds.length → fds.length ≤ 5 → (fds.map (·.1)).Nodup → (∀ f ∈ fds, f.1 ∈ nm ∧ okS l 4 false f.2.2) → (∀ k ∈ rows, ∀ f ∈ k.fds, f ∈ fds) → Gr b H H' → Box H' b r → Q (.ref t) H'
theorem ok_Lkind {f f1 f2 : Addr} {fd fd1 fd2 : FuncData} (D : Df K mg "_law_kind" s_Lkind f fd ["_law_box_here", "_law_faces", "_law_names", "_law_common", "_law_bases_here", "_law_most"]) (D_Ldraw : Df K mg "_law_draw" s_Ldraw f1 fd1 ["_law_box_here", "_law_many"])
    (D_Lshape : Df K mg "_law_shape" s_Lshape f2 fd2 ["_law_box_here", "_law_bases_here", "_law_most"]) (T : Nms mg) : FnOk P w K mg base CX0 3 f fd ["_law_box_here", "_law_faces", "_law_names", "_law_common", "_law_bases_here", "_law_most"] spLkind := by
  have G_Ldraw : FnOk P w K mg base CX0 1 f1 fd1 ["_law_box_here", "_law_many"] spLdraw := ok_Ldraw D_Ldraw T
  have G_Lshape : FnOk P w K mg base CX0 2 f2 fd2 ["_law_box_here", "_law_bases_here", "_law_most"] spLshape := ok_Lshape D_Lshape D_Ldraw T
  refine D.F.ok sc_Lkind (fun vs H Q E h => ?_) (fun cdv A outer s H vs Q E hr h => ?_)
  · obtain ⟨b, r, fl, nl, cl, bs, rows, nm, cm, l, m, rfl, _⟩ := h
    rfl
  · obtain ⟨b, r, fl, nl, cl, bs, rows, nm, cm, l, m, rfl, G, hm, q⟩ := h
    have hu := hu_of hr
    have hu0 := Nat.lt_of_le_of_lt (Nat.le_add_right _ 1) hu
    refine ⟨_, (pss_cons (ps_set (i := 6) sc_Lkind.nd rfl (.inl rfl) pe_dnewK)
      (pss_cons (ps_for PassesOwn.never rfl (pi_list (pv 1)) (pg_name (i := 7) sc_Lkind.nd rfl (.inl rfl))
       (pss_one (ps_lock (ps_for PassesOwn.never rfl (pi_keys (pv 7)) (pg_name (i := 8) sc_Lkind.nd rfl (.inl rfl))
         (pss_one (ps_dput hu (pv 6) (pv 8) (pe_dget hu (pv 7) (pv 8) (fun _ _ => rfl)) rfl))))))
      (pss_cons (ps_for PassesOwn.never rfl (pi_range1 (by rfl) T.n_range (pa_cons pe_int pa_nil)) (pg_name (i := 9) sc_Lkind.nd rfl (.inl rfl))
       (pss_one (ps_if (PW.pt (pw_and (pt_cmp (pc_dnotin hu (pe_ix ix_list (pv 2) (pv 9) (fun _ _ => rfl)) (pv 6)) rfl) (pw_and1 (pt_cmpR op_eq (pe_call G_Ldraw (hr.mono (by decide)) (by rfl) D_Ldraw.g D_Ldraw.F.kp D_Ldraw.b .nil pass0 (pa_cons (pv 0) (pa_cons pe_int pa_nil))) pe_int (nomark _)))))
         (pss_cons (ps_dput hu (pv 6) (pe_ix ix_list (pv 2) (pv 9) (fun _ _ => rfl)) (pe_ix ix_list (pv 3) (pv 9) (fun _ _ => rfl)) rfl)
          (pss_one (ps_if (pt_cmpR op_eq (pe_call G_Ldraw (hr.mono (by decide)) (by rfl) D_Ldraw.g D_Ldraw.F.kp D_Ldraw.b .nil pass0 (pa_cons (pv 0) (pa_cons pe_int pa_nil))) pe_int (nomark _))
           (pss_one (ps_dput hu (pv 6) (pe_ix ix_list (pv 2) (pv 9) (fun _ _ => rfl)) (pe_call G_Lshape (hr.mono (by decide)) (by rfl) D_Lshape.g D_Lshape.F.kp D_Lshape.b .nil pass0 (pa_cons (pv 0) (pa_cons (pv 4) (pa_cons (pv 5) pa_nil)))) rfl))
           pss_nil)))
         pss_nil)))
      (pss_cons (ps_if (pt_cmpR (op_eq_dict0 hu0) (pv 6) pe_dnewK (nomark _))
       (pss_cons (ps_set (i := 9) sc_Lkind.nd rfl (.inl rfl) (pe_call G_Ldraw (hr.mono (by decide)) (by rfl) D_Ldraw.g D_Ldraw.F.kp D_Ldraw.b .nil pass0 (pa_cons (pv 0) (pa_cons pe_int pa_nil))))
        (pss_one (ps_dput hu (pv 6) (pe_ix ix_list (pv 2) (pv 9) (fun _ _ => rfl)) (pe_ix ix_list (pv 3) (pv 9) (fun _ _ => rfl)) rfl)))
       pss_nil)
      (pss_one (ps_ret (pv 6))))))), ?_⟩
    refine fun t nt => ?_
    have ntb : t ≠ b := G.B.neb nt
    have ntr : t ≠ r := G.B.ner nt
    -- for face in faces
    refine ⟨.ref fl, rfl, fl, rfl, ⟨_, SqL.of (by rw [upd_ne (ne_of_none G.hfl nt)]; exact G.hfl)⟩, ?_⟩
    refine for_list (xs := rows.map fun k => V.ref k.da) (fun i σ H' => ∃ (y7 y8 y9 : Option V) (fds : List Fld), σ = [some (.ref b), some (.ref fl), some (.ref nl), some (.ref cl), some (.ref bs), some (.int m), some (.ref t), y7, y8, y9] ∧ H' = upd H t (.dK (fkv fds)) ∧ (fds.map (·.1)).Nodup ∧
      (∀ f ∈ fds, Com nm cm f ∧ ShAt H f.2.1 f.2.2) ∧ ∀ k ∈ rows.take i, ∀ f ∈ k.fds, f ∈ fds) ⟨none, none, none, [], rfl, rfl, List.nodup_nil, (fun f m => by cases m), (fun k m => by simp at m)⟩ ?_ ?_ ?_
    · rintro i σ H' _ ⟨_, _, _, fds, _, rfl, _⟩
      exact SqL.of (by rw [upd_ne (ne_of_none G.hfl nt)]; exact G.hfl)
    · rintro i x σ H' ex ⟨y7, y8, y9, fds, rfl, rfl, hnd, hf, hall⟩
      rw [List.getElem?_map] at ex
      cases er : rows[i]? with
      | none => rw [er] at ex; cases ex
      | some row =>
        rw [er] at ex
        cases ex
        have hm' := List.mem_of_getElem? er
        have hrat := G.rat row hm'
        have nrt : row.da ≠ t := ne_of_none hrat.at_ nt
        have hd : (upd H t (.dK (fkv fds))) row.da = some (.dK (fkv row.fds)) := by rw [upd_ne nrt]; exact hrat.at_
        refine ⟨row.da, .dK (fkv row.fds), hd, trivial, fun od => ⟨.ref row.da, rfl, row.da, od, rfl, .inl ⟨fkv row.fds, upd_same, ?_⟩⟩⟩
        have hrl : (fkv row.fds).length = row.fds.length := List.length_map ..
        refine for_it walk_keys (fun j σ H' => ∃ (y8 : Option V) (fds : List Fld), σ = [some (.ref b), some (.ref fl), some (.ref nl), some (.ref cl), some (.ref bs), some (.int m), some (.ref t), some (.ref row.da), y8, y9] ∧ H' = upd (upd H t (.dK (fkv fds))) row.da (.frz od (.dK (fkv row.fds))) ∧ (fds.map (·.1)).Nodup ∧
          (∀ f ∈ fds, Com nm cm f ∧ ShAt H f.2.1 f.2.2) ∧ (∀ k ∈ rows.take i, ∀ f ∈ k.fds, f ∈ fds) ∧ ∀ f ∈ row.fds.take j, f ∈ fds) ⟨y8, fds, rfl, rfl, hnd, hf, hall, (fun f m => by simp at m)⟩ ?_ ?_ ?_
        · rintro j σ H' _ ⟨_, fds, _, rfl, _⟩
          exact upd_same
        · rintro j x σ H3 H4 hj ⟨y8, fds, rfl, e3, hnd, hf, hall, hpre⟩ ⟨e4, k, v, e, rfl⟩
          subst e4
          subst e3
          obtain ⟨f, ef, rfl, rfl⟩ := fkv_at e
          have fm := List.mem_of_getElem? ef
          have htt : (upd (upd H t (.dK (fkv fds))) row.da (.frz od (.dK (fkv row.fds)))) t = some (.dK (fkv fds)) := by rw [upd_ne nrt.symm, upd_same]
          have few : fds.length ≤ 5 := by
            have := len_le_of_sub hnd (m := nm) fun z hz => by
              obtain ⟨y, hy, rfl⟩ := List.mem_map.mp hz
              obtain ⟨⟨j, h1, _⟩, _⟩ := hf y hy
              exact List.mem_of_getElem? h1
            rw [List.length_map, G.n5] at this
            exact this
          refine ⟨.ref row.da, rfl, .str f.1, rfl, row.da, f.2.1, rfl, .inl ⟨fkv row.fds, .inr f.1, .inr ⟨od, upd_same⟩, rfl, (fkv_val (G.rnd row hm') fm).symm⟩, .ref t, rfl, .str f.1, rfl, t, _, rfl, DPut.k (k := Sum.inr f.1) htt ?_, ?_⟩
          · rw [show (fkv fds).length = fds.length from List.length_map ..]
            exact Nat.lt_of_le_of_lt (show fds.length ≤ 1000 by omega) (by decide)
          · refine ⟨_, putFl fds f, rfl, ?_, putFl_nd hnd, fun x hx => ?_, fun k hk x hx => ?_, fun x hx => ?_⟩
            · rw [putFl_kv, upd_comm nrt, upd_upd, upd_comm nrt.symm]
            · rcases putFl_mem hx with rfl | ⟨hx, _⟩
              · exact ⟨G.com row hm' _ fm, hrat.sh _ fm⟩
              · exact hf x hx
            · by_cases ek : x.1 = f.1
              · rw [Com.eq G.nnd (hf x (hall k hk x hx)).1 (G.com row hm' f fm) ek]
                exact putFl_has fds f
              · exact putFl_old (hall k hk x hx) ek
            · rw [List.take_add_one, ef] at hx
              rcases List.mem_append.mp hx with hx | hx
              · by_cases ek : x.1 = f.1
                · rw [Com.eq G.nnd (hf x (hpre x hx)).1 (G.com row hm' f fm) ek]
                  exact putFl_has fds f
                · exact putFl_old (hpre x hx) ek
              · obtain rfl : x = f := by simpa using hx
                exact putFl_has fds _
        · rintro σ H3 ⟨y8, fds, rfl, e3, hnd, hf, hall, hpre⟩
          subst e3
          refine ⟨upd_same, some (.ref row.da), y8, y9, fds, rfl, ?_, hnd, hf, fun k hk x hx => ?_⟩
          · rw [upd_upd]
            exact upd_id (by rw [upd_ne nrt]; exact hrat.at_)
          · rw [List.take_add_one, er] at hk
            rcases List.mem_append.mp hk with hk | hk
            · exact hall k hk x hx
            · obtain rfl : k = row := by simpa using hk
              rw [hrl, List.take_length] at hpre
              exact hpre x hx
    · rintro σ H1 ⟨y7, y8, y9, fds, rfl, e1, hnd, hf, hall⟩
      rw [List.length_map, List.take_length] at hall
      have gt : Gr b H H1 := by rw [e1]; exact Gr.new nt
      have B1 : Box H1 b r := by rw [e1]; exact G.B.new nt
      have ht1 : H1 t = some (.dK (fkv fds)) := by rw [e1]; exact upd_same
      obtain ⟨bx, hbx⟩ := G.B.lst
      have hf1 : ∀ f ∈ fds, f.1 ∈ nm ∧ okS l 4 false f.2.2 ∧ ShAt H1 f.2.1 f.2.2 := fun f m => by
        obtain ⟨⟨j, h1, h2⟩, h3⟩ := hf f m
        exact ⟨List.mem_of_getElem? h1, (G.csh _ (List.mem_of_getElem? h2)).2, h3.grO (Oth.lst hbx) gt⟩
      clear e1 hf
      -- for k in range(5)
      refine ⟨5, rfl, by decide, by decide, for_range (lo := 0) (n := 5) (fun i σ H' => ∃ (y7 y8 y9 : Option V) (fds : List Fld), σ = [some (.ref b), some (.ref fl), some (.ref nl), some (.ref cl), some (.ref bs), some (.int m), some (.ref t), y7, y8, y9] ∧ H' t = some (.dK (fkv fds)) ∧ (fds.map (·.1)).Nodup ∧
        (∀ f ∈ fds, f.1 ∈ nm ∧ okS l 4 false f.2.2 ∧ ShAt H' f.2.1 f.2.2) ∧ (∀ k ∈ rows, ∀ f ∈ k.fds, f ∈ fds) ∧ Gr b H H' ∧ Box H' b r) ⟨y7, y8, y9, fds, rfl, ht1, hnd, hf1, hall, gt, B1⟩ ?_ ?_⟩
      · rintro i σ H2 hi ⟨y7, y8, y9, fds, rfl, ht, hnd, hf, hall, g, B2⟩
        have A2 := G.gr g B2
        have hni : nm[i]? = some (nm[i]'(by rw [G.n5]; exact hi)) := List.getElem?_eq_getElem _
        have hci : cm[i]? = some (cm[i]'(by rw [G.c5]; exact hi)) := List.getElem?_eq_getElem _
        generalize nm[i]'(by rw [G.n5]; exact hi) = z at hni
        generalize cm[i]'(by rw [G.c5]; exact hi) = c at hci
        have hzm := List.mem_of_getElem? hni
        have hcm := List.mem_of_getElem? hci
        have few : ∀ {fds : List Fld}, (fds.map (·.1)).Nodup → (∀ f ∈ fds, f.1 ∈ nm) → fds.length ≤ 5 := fun {fds} h1 h2 => by
          have := len_le_of_sub h1 (m := nm) fun z hz => by
            obtain ⟨y, hy, rfl⟩ := List.mem_map.mp hz
            exact h2 y hy
          rw [List.length_map, G.n5] at this
          exact this
        have atN : ∀ {H' : Hp}, H' nl = some (.lst (nm.map V.str)) → SqL K H' nl (nm.map V.str) := fun h => SqL.of h
        have an : atI (nm.map V.str) (0 + (i : Int)) = some (.str z) := at_of (j := i) (by omega) (by rw [List.getElem?_map, hni]; rfl)
        have ac : atI (cm.map (·.1)) (0 + (i : Int)) = some c.1 := at_of (j := i) (by omega) (by rw [List.getElem?_map, hci]; rfl)
        refine ⟨.ref nl, rfl, _, rfl, nl, _, _, .str z, rfl, rfl, SqL.of A2.hnl, an, .ref t, rfl, t, valV (fkv fds) (Sum.inr z), rfl, DGet.k (k := Sum.inr z) ht, _, rfl, ?_⟩
        by_cases hz : z ∈ fds.map (·.1)
        · -- it is there
          have : (valV (fkv fds) (Sum.inr z)).isSome = true := by
            obtain ⟨f, hfm, rfl⟩ := List.mem_map.mp hz
            rw [fkv_val hnd hfm]
            rfl
          rw [this]
          exact iteF ⟨y7, y8, _, fds, rfl, ht, hnd, hf, hall, g, B2⟩
        · have : valV (fkv fds) (Sum.inr z) = none := valV_out (f := fun f : Fld => f.1) (g := fun f => f.2.1) hz
          rw [this]
          refine iteT ⟨.ref b, rfl, b, r, 2, rfl, B2, by decide, by decide, fun d H3 d0 d1 g3 B3 => ⟨rfl, _, rfl, ite2 (fun e => ?_) (fun e => ?_)⟩⟩
          · have A3 := A2.gr g3 B3
            have ht3 := g3 _ _ ntb ht
            obtain ⟨bx, hbx2⟩ := B2.lst
            have hf3 : ∀ f ∈ fds, f.1 ∈ nm ∧ okS l 4 false f.2.2 ∧ ShAt H3 f.2.1 f.2.2 := fun f m => ⟨(hf f m).1, (hf f m).2.1, (hf f m).2.2.grO (Oth.lst hbx2) g3⟩
            have fl5 := few hnd fun f m => (hf f m).1
            -- table[names[k]] = common[k]
            refine ⟨.ref cl, rfl, _, rfl, cl, _, _, c.1, rfl, rfl, SqL.of A3.hcl, ac, .ref t, rfl, .ref nl, rfl, _, rfl, nl, _, _, .str z, rfl, rfl, SqL.of A3.hnl, an, t, _, rfl, DPut.k (k := Sum.inr z) ht3 ?_, ?_⟩
            · rw [show (fkv fds).length = fds.length from List.length_map ..]
              exact Nat.lt_of_le_of_lt (show fds.length ≤ 1000 by omega) (by decide)
            have g4 : Gr b H (upd H3 t (.dK (putK (fkv fds) (Sum.inr z) c.1))) := (g.trans g3).upd nt
            have B4 : Box (upd H3 t (.dK (putK (fkv fds) (Sum.inr z) c.1))) b r := B3.upd ntb ntr
            have ht4 : (upd H3 t (.dK (putK (fkv fds) (Sum.inr z) c.1))) t = some (.dK (fkv (putFl fds (z, c)))) := by rw [upd_same]; exact congrArg (fun z => some (HO.dK z)) (putFl_kv fds (z, c))
            have sh4 : ∀ {v : V} {s : Shp}, ShAt H3 v s → ShAt (upd H3 t (.dK (putK (fkv fds) (Sum.inr z) c.1))) v s := fun h => h.gr (xs := []) (.inr ⟨_, ht3⟩) Gr.box
            have hf4 : ∀ f ∈ putFl fds (z, c), f.1 ∈ nm ∧ okS l 4 false f.2.2 ∧ ShAt (upd H3 t (.dK (putK (fkv fds) (Sum.inr z) c.1))) f.2.1 f.2.2 := fun f m => by
              rcases putFl_mem m with rfl | ⟨m, _⟩
              · exact ⟨hzm, (A3.csh c hcm).2, sh4 (A3.csh c hcm).1⟩
              · exact ⟨(hf3 f m).1, (hf3 f m).2.1, sh4 (hf3 f m).2.2⟩
            have hnd4 := putFl_nd (f := (z, c)) hnd
            have hall4 : ∀ k ∈ rows, ∀ f ∈ k.fds, f ∈ putFl fds (z, c) := fun k hk f hfk => putFl_old (hall k hk f hfk) fun e => hz (by rw [← (show f.1 = z from e)]; exact List.mem_map.mpr ⟨f, hall k hk f hfk, rfl⟩)
            generalize upd H3 t (.dK (putK (fkv fds) (Sum.inr z) c.1)) = H4 at g4 B4 ht4 hf4
            -- if draw(box, 2) == 1
            refine ⟨.ref b, rfl, b, r, 2, rfl, B4, by decide, by decide, fun d2 H5 d20 d21 g5 B5 => ⟨rfl, _, rfl, ite2 (fun e2 => ?_) (fun e2 => ?_)⟩⟩
            · have A5 := (G.gr g4 B4).gr g5 B5
              refine ⟨.ref b, rfl, .ref bs, rfl, .int m, rfl, b, r, bs, l, m, rfl, B5, A5.hbs, G.nbs, G.l0, G.l1, hm, fun v s H6 hv hs g6 B6 => ?_⟩
              have A6 := A5.gr g6 B6
              have ht6 := (g5.trans g6) _ _ ntb ht4
              have fl6 := few hnd4 fun f m => (hf4 f m).1
              refine ⟨.ref t, rfl, .ref nl, rfl, _, rfl, nl, _, _, .str z, rfl, rfl, SqL.of A6.hnl, an, t, _, rfl, DPut.k (k := Sum.inr z) ht6 ?_, ?_⟩
              · rw [show (fkv (putFl fds (z, c))).length = (putFl fds (z, c)).length from List.length_map ..]
                exact Nat.lt_of_le_of_lt (show (putFl fds (z, c)).length ≤ 1000 by omega) (by decide)
              obtain ⟨bx4, hbx4⟩ := B4.lst
              have sh7 : ∀ {v' : V} {s' : Shp}, ShAt H6 v' s' → ShAt (upd H6 t (.dK (putK (fkv (putFl fds (z, c))) (Sum.inr z) v))) v' s' := fun h => h.gr (xs := []) (.inr ⟨_, ht6⟩) Gr.box
              refine ⟨y7, y8, _, putFl (putFl fds (z, c)) (z, v, s), rfl, ?_, putFl_nd hnd4, fun f m => ?_, fun k hk f hfk => ?_, ((g4.trans g5).trans g6).upd nt, B6.upd ntb ntr⟩
              · rw [upd_same]
                exact congrArg (fun z => some (HO.dK z)) (putFl_kv (putFl fds (z, c)) (z, v, s))
              · rcases putFl_mem m with rfl | ⟨m, _⟩
                · exact ⟨hzm, hs, sh7 hv⟩
                · exact ⟨(hf4 f m).1, (hf4 f m).2.1, sh7 ((hf4 f m).2.2.grO (Oth.lst hbx4) (g5.trans g6))⟩
              · exact putFl_old (hall4 k hk f hfk) fun e => hz (by rw [← (show f.1 = z from e)]; exact List.mem_map.mpr ⟨f, hall k hk f hfk, rfl⟩)
            · obtain ⟨bx4, hbx4⟩ := B4.lst
              exact ⟨y7, y8, _, putFl fds (z, c), rfl, g5 _ _ ntb ht4, hnd4, fun f m => ⟨(hf4 f m).1, (hf4 f m).2.1, (hf4 f m).2.2.grO (Oth.lst hbx4) g5⟩, hall4, g4.trans g5, B5⟩
          · obtain ⟨bx, hbx2⟩ := B2.lst
            exact ⟨y7, y8, _, fds, rfl, g3 _ _ ntb ht, hnd, fun f m => ⟨(hf f m).1, (hf f m).2.1, (hf f m).2.2.grO (Oth.lst hbx2) g3⟩, hall, g.trans g3, B3⟩
      · rintro σ H2 ⟨y7, y8, y9, fds, rfl, ht, hnd, hf, hall, g, B2⟩
        have few : ∀ {fds : List Fld}, (fds.map (·.1)).Nodup → (∀ f ∈ fds, f.1 ∈ nm) → fds.length ≤ 5 := fun {fds} h1 h2 => by
          have := len_le_of_sub h1 (m := nm) fun z hz => by
            obtain ⟨y, hy, rfl⟩ := List.mem_map.mp hz
            exact h2 y hy
          rw [List.length_map, G.n5] at this
          exact this
        have fl5 := few hnd fun f m => (hf f m).1
        -- if table == {}
        refine ⟨.ref t, rfl, fun p np => ⟨t, p, fkv fds, rfl, rfl, by rw [upd_ne (ne_of_none ht np)]; exact ht, upd_same, _, rfl, ite2 (fun e => ?_) (fun e => ?_)⟩⟩
        · have e0 : fds = [] := by
            have h1 : (fkv fds).length = 0 := eq_of_beq e
            rw [show (fkv fds).length = fds.length from List.length_map ..] at h1
            exact List.length_eq_zero_iff.mp h1
          subst e0
          have g3 : Gr b H (upd H2 p (.dK [])) := g.trans (Gr.new np)
          have B3 : Box (upd H2 p (.dK [])) b r := B2.new np
          have ht3 : (upd H2 p (.dK [])) t = some (.dK (fkv [])) := by rw [upd_ne (ne_of_none ht np)]; exact ht
          generalize upd H2 p (.dK []) = H3 at g3 B3 ht3
          refine ⟨.ref b, rfl, b, r, 5, rfl, B3, by decide, by decide, fun k H4 k0 k1 g4 B4 => ?_⟩
          obtain ⟨k, rfl⟩ := Int.eq_ofNat_of_zero_le k0
          have hk5 : k < 5 := by omega
          have A4 := (G.gr g3 B3).gr g4 B4
          have hni : nm[k]? = some (nm[k]'(by rw [G.n5]; exact hk5)) := List.getElem?_eq_getElem _
          have hci : cm[k]? = some (cm[k]'(by rw [G.c5]; exact hk5)) := List.getElem?_eq_getElem _
          generalize nm[k]'(by rw [G.n5]; exact hk5) = z at hni
          generalize cm[k]'(by rw [G.c5]; exact hk5) = c at hci
          have an : atI (nm.map V.str) (k : Int) = some (.str z) := atI_nat (by rw [List.getElem?_map, hni]; rfl)
          have ac : atI (cm.map (·.1)) (k : Int) = some c.1 := atI_nat (by rw [List.getElem?_map, hci]; rfl)
          have ht4 := g4 _ _ ntb ht3
          refine ⟨.ref cl, rfl, _, rfl, cl, _, _, c.1, rfl, rfl, SqL.of A4.hcl, ac, .ref t, rfl, .ref nl, rfl, _, rfl, nl, _, _, .str z, rfl, rfl, SqL.of A4.hnl, an, t, _, rfl, DPut.k (k := Sum.inr z) ht4 (by show 0 < sizeLine; decide), ?_⟩
          have sh5 := (A4.csh c (List.mem_of_getElem? hci)).1.gr (xs := []) (H' := upd H4 t (.dK (putK (fkv []) (Sum.inr z) c.1))) (.inr ⟨_, ht4⟩) Gr.box
          refine ⟨.ref t, rfl, q t [(z, c)] _ nt ⟨?_, fun f m => ?_⟩ (Nat.le_refl 1) (by show 1 ≤ 5; decide) (by simp) (fun f m => ?_) (fun k' hk' f hf' => absurd (hall k' hk' f hf') (by simp)) ((g3.trans g4).upd nt) (B4.upd ntb ntr)⟩
          · rw [upd_same]
            rfl
          · obtain rfl := List.mem_singleton.mp m
            exact sh5
          · obtain rfl := List.mem_singleton.mp m
            exact ⟨List.mem_of_getElem? hni, (A4.csh c (List.mem_of_getElem? hci)).2⟩
        · have h1 : fds ≠ [] := fun z => by
            subst z
            exact e rfl
          have hp : 1 ≤ fds.length := List.length_pos_iff.mpr h1
          have sm := same_new (o := .dK []) np
          refine ⟨.ref t, rfl, q t fds _ nt ⟨sm _ _ ht, fun f m => (hf f m).2.2.same sm⟩ hp fl5 hnd (fun f m => ⟨(hf f m).1, (hf f m).2.1⟩) hall (g.trans (Gr.new np)) (B2.new np)⟩
end
end NW
namespace NW
open PySem PySem.Spec PyProof.Rows L2
open TL (tl)
abbrev s_Lwords : Stmt := topS 39
abbrev N_Lwords : List Str := ["_law_box_here", "_law_many", "_law_letters", "_law_shift", "_law_front", "_law_words_here", "_law_k", "_law_size", "_law_rest", "_law_sign", "_law_word", "_law_j"]
theorem sc_Lwords : FnScope N_Lwords ["_law_box_here", "_law_many"] (defScope s_Lwords) := ⟨rfl, rfl, rfl, by decide +kernel, rfl, by decide +kernel, by decide +kernel⟩
section
variable {P : Program} {w : World} {K : PySem.W.Frag} {mg : Str → Option Value} {base : Heap}
def spLwords : Sp := fun vs H Q _ => ∃ (b r : Addr) (n : Nat), vs = [.ref b, .int n] ∧ Box H b r ∧ n ≤ 26 ∧
  ∀ (ws : List Str) (p : Addr) H', ws.length = n → (∀ z ∈ ws, IsName z ∧ z ≠ "text" ∧ z ≠ "number") → ws.Nodup → Gr b H H' → Box H' b r → H p = none → H' p = some (.lst (ws.map V.str)) → Q (.ref p) H'
theorem ok_Lwords {f f1 : Addr} {fd fd1 : FuncData} (D : Df K mg "_law_words" s_Lwords f fd ["_law_box_here", "_law_many"]) (D_Ldraw : Df K mg "_law_draw" s_Ldraw f1 fd1 ["_law_box_here", "_law_many"]) (T : Nms mg) : FnOk P w K mg base CX0 2 f fd ["_law_box_here", "_law_many"] spLwords := by
  have G_Ldraw : FnOk P w K mg base CX0 1 f1 fd1 ["_law_box_here", "_law_many"] spLdraw := ok_Ldraw D_Ldraw T
  refine D.F.ok sc_Lwords (fun vs H Q E h => ?_) (fun cdv A outer s H vs Q E hr h => ?_)
  · obtain ⟨b, r, m, rfl, _⟩ := h
    rfl
  · obtain ⟨b, r, n, rfl, B, hn, q⟩ := h
    refine ⟨_, (pss_cons (ps_set (i := 2) sc_Lwords.nd rfl (.inr rfl) pe_str)
      (pss_cons (ps_set (i := 3) sc_Lwords.nd rfl (.inl rfl) (pe_call G_Ldraw (hr.mono (by decide)) (by rfl) D_Ldraw.g D_Ldraw.F.kp D_Ldraw.b .nil pass0 (pa_cons (pv 0) (pa_cons pe_int pa_nil))))
      (pss_cons (ps_set (i := 4) sc_Lwords.nd rfl (.inl rfl) (pe_call G_Ldraw (hr.mono (by decide)) (by rfl) D_Ldraw.g D_Ldraw.F.kp D_Ldraw.b .nil pass0 (pa_cons (pv 0) (pa_cons pe_int pa_nil))))
      (pss_cons (ps_set (i := 5) sc_Lwords.nd rfl (.inl rfl) (pe_lst pa_nil))
      (pss_cons (ps_for PassesOwn.never rfl (pi_range1 (by rfl) T.n_range (pa_cons (pv 1) pa_nil)) (pg_name (i := 6) sc_Lwords.nd rfl (.inl rfl))
       (pss_cons (ps_set (i := 7) sc_Lwords.nd rfl (.inl rfl) (pe_ix ix_list (pe_lst (pa_cons pe_int (pa_cons pe_int (pa_cons pe_int (pa_cons pe_int pa_nil))))) (pe_call G_Ldraw (hr.mono (by decide)) (by rfl) D_Ldraw.g D_Ldraw.F.kp D_Ldraw.b .nil pass0 (pa_cons (pv 0) (pa_cons pe_int pa_nil))) (fun _ _ => rfl)))
        (pss_cons (ps_set (i := 8) sc_Lwords.nd rfl (.inl rfl) (pe_join pe_str (pe_lc (own := [("_law_j", 11)]) (g := (gName 11)) (tt := tYes) rfl sc_Lwords.nd (pi_range1 (by rfl) T.n_range (pa_cons (pv 7) pa_nil)) (blkOk_by (own := [("_law_j", 11)]) (N := N_Lwords) (sc := defScope s_Lwords) (by decide +kernel)) (fun _ _ _ _ _ => (pg_name (i := 11) sc_Lwords.nd rfl (.inl rfl))) (fun _ _ _ _ _ => pts_nil) (fun _ _ _ _ _ => (pe_ix ix_str (pv 2) (pe_call G_Ldraw (hr.mono (by decide)) (by rfl) D_Ldraw.g D_Ldraw.F.kp D_Ldraw.b .nil pass0 (pa_cons (pv 0) (pa_cons pe_int pa_nil))) (fun _ _ => rfl))))))
        (pss_cons (ps_set (i := 9) sc_Lwords.nd rfl (.inl rfl) (pe_ix ix_str (pv 2) (pe_op op_modN (pe_callTy call_int1 (by rfl) T.n_int (by decide +kernel) (pa_cons (pe_op op_add (pv 3) (pv 6)) pa_nil)) pe_int) (fun _ _ => rfl)))
        (pss_cons (ps_set (i := 10) sc_Lwords.nd rfl (.inl rfl) (pe_ix ix_list (pe_lst (pa_cons (pe_op op_add_str (pv 8) (pv 9)) (pa_cons (pe_op op_add_str (pv 9) (pv 8)) pa_nil))) (pv 4) (fun _ _ => rfl)))
        (pss_one (ps_expr (pe_bm PySem.F.plainAttrs_list PySem.F.slot_list_append PySem.F.type_list_append mt_append (pv 5) (pa_cons (pe_ix ix_list (pe_lst (pa_cons (pv 10) (pa_cons (pv 9) pa_nil))) (pe_callTy call_int1 (by rfl) T.n_int (by decide +kernel) (pa_cons (pe_or (pe_cmpR op_eq (pv 10) pe_str (nomark _)) (pe_one (pe_cmpR op_eq (pv 10) pe_str (nomark _)))) pa_nil)) (fun _ _ => rfl)) pa_nil)))))))))
      (pss_one (ps_ret (pv 5)))))))), ?_⟩

    -- shift, front, words = []
    refine ⟨.ref b, rfl, b, r, 26, rfl, B, by decide, by decide, fun sh H1 h10 h11 g1 B1 => ?_⟩
    refine ⟨.ref b, rfl, b, r, 2, rfl, B1, by decide, by decide, fun fr H2 h20 h21 g2 B2 => ?_⟩
    refine ⟨Nat.zero_le _, fun p np => ?_⟩
    obtain ⟨sh, rfl⟩ := Int.eq_ofNat_of_zero_le h10
    obtain ⟨fr, rfl⟩ := Int.eq_ofNat_of_zero_le h20
    have hsh : sh < 26 := by omega
    have hfr : fr < 2 := by omega
    have g02 : Gr b H H2 := g1.trans g2
    have npb := B2.neb np
    have npr := B2.ner np
    have np0 : H p = none := g02.free npb np
    -- for k in range(many)
    refine ⟨.int n, rfl, n, rfl, by omega, by omega, for_range (lo := 0) (n := n) (fun i σ H' => ∃ y6 y7 y8 y9 y10 ws, σ = [some (.ref b), some (.int n), some (.str LET), some (.int sh), some (.int fr), some (.ref p), y6, y7, y8, y9, y10, none] ∧ ws.length = i ∧ WordsOk fr sh ws ∧ Gr b H H' ∧ Box H' b r ∧ H' p = some (.lst (ws.map V.str))) ?_ ?_ ?_⟩
    · exact ⟨none, none, none, none, none, [], rfl, rfl, fun k h => absurd h (Nat.not_lt_zero _), g02.trans (Gr.new np), B2.new np, upd_same⟩
    · rintro i σ H3 hi ⟨y6, y7, y8, y9, y10, ws, rfl, hl, hw, g3, B3, e3⟩
      -- size
      refine ⟨by show 4 ≤ sizeLine; decide, fun q1 nq1 => ?_⟩
      have n1b := B3.neb nq1
      refine ⟨.ref b, rfl, b, r, 4, rfl, B3.new nq1, by decide, by decide, fun d H4 d0 d1 g4 B4 => ?_⟩
      have hd : ∃ sz : Nat, sz ≤ 7 ∧ atI [V.int 0, V.int 1, V.int 2, V.int 7] d = some (.int sz) := by
        obtain ⟨j, rfl⟩ := Int.eq_ofNat_of_zero_le d0
        have hj : j < 4 := by omega
        match j, hj with
        | 0, _ => exact ⟨0, by decide, rfl⟩
        | 1, _ => exact ⟨1, by decide, rfl⟩
        | 2, _ => exact ⟨2, by decide, rfl⟩
        | 3, _ => exact ⟨7, by decide, rfl⟩
      obtain ⟨sz, hsz, hat⟩ := hd
      refine ⟨q1, _, d, .int sz, rfl, rfl, SqL.of (g4 _ _ n1b upd_same), hat, ?_⟩
      have g04 : Gr b H H4 := (g3.trans (Gr.new nq1)).trans g4
      have e4 : H4 p = some (.lst (ws.map V.str)) := g4 _ _ npb (by rw [upd_ne (ne_of_none e3 nq1)]; exact e3)
      -- rest = ''.join(..)
      refine ⟨⟨_, rfl⟩, .int sz, rfl, sz, rfl, by omega, by omega, fun D nD => ?_⟩
      have nDb := B4.neb nD
      have nDp : p ≠ D := ne_of_none e4 nD
      refine lc_range (lo := 0) (n := sz) (fun j H' => ∃ cs : List Nat, cs.length = j ∧ (∀ c ∈ cs, 97 ≤ c ∧ c ≤ 122) ∧ Gr b H H' ∧ Box H' b r ∧ H' p = some (.lst (ws.map V.str)) ∧ H' D = some (.lst ((cs.map fun c => sgn c).map V.str))) ?_ ?_ ?_
      · exact ⟨[], rfl, (fun c h => by cases h), g04.trans (Gr.new nD), B4.new nD, by rw [upd_ne nDp]; exact e4, upd_same⟩
      · rintro j H5 hj ⟨cs, hcl, hcs, g5, B5, e5, eD⟩
        refine ⟨rfl, lcT ?_⟩
        refine ⟨.str LET, rfl, .ref b, rfl, b, r, 26, rfl, B5, by decide, by decide, fun c H6 c0 c1 g6 B6 => ?_⟩
        obtain ⟨c, rfl⟩ := Int.eq_ofNat_of_zero_le c0
        refine ⟨LET, c, 97 + c, rfl, rfl, let_len, atI_nat (let_at (by omega)), ?_⟩
        have eD6 := g6 _ _ nDb eD
        refine ⟨_, eD6, ?_, cs ++ [97 + c], ?_, ?_, ?_, ?_, ?_, ?_⟩
        · rw [List.length_map, List.length_map]
          exact Nat.lt_of_le_of_lt (show cs.length ≤ 1000 by omega) (by decide)
        · rw [List.length_append, hcl]; rfl
        · intro x hx
          rcases List.mem_append.mp hx with hx | hx
          · exact hcs x hx
          · have := List.mem_singleton.mp hx
            omega
        · exact (g5.trans g6).upd (g04.free nDb nD)
        · exact B6.upd nDb (B4.ner nD)
        · rw [upd_ne nDp]
          exact g6 _ _ npb e5
        · rw [upd_same, List.map_append, List.map_append]
          rfl
      · rintro H5 ⟨cs, hcl, hcs, g5, B5, e5, eD⟩
        refine ⟨"", D, cs.map fun c => sgn c, rfl, rfl, .inl (SqL.of eD), ?_, ?_⟩
        · rw [show ((cs.map fun c => sgn c).map fun x => x.length) = (cs.map fun c => sgn c).map Str.length from rfl, sgn_sum, List.length_map]
          have : ("" : Str).length = 0 := by decide +kernel
          rw [this]
          omega
        generalize hrest : Txt.join "" (cs.map fun c => sgn c) = rest
        have htl : tl rest = cs := by rw [← hrest, joinE]
        have hrl : rest.length = cs.length := by rw [len_tl, htl]
        -- sign
        have hm := fmod_range (a := (sh : Int) + (0 + i)) (show (0 : Int) < 26 by decide)
        have em : ((sh : Int) + (0 + i)).fmod 26 = (((sh + i) % 26 : Nat) : Int) := by
          rw [Int.fmod_eq_emod_of_nonneg _ (by decide)]
          omega
        refine ⟨.str LET, rfl, .int sh, rfl, .int (0 + i), rfl, _, _, rfl, rfl, .inl ⟨_, rfl, _, _, rfl, rfl, nz rfl, LET, _, 97 + (sh + i) % 26, rfl, rfl, let_len, ?_, ?_⟩⟩
        · show atI LET.cps.toList (((sh : Int) + (0 + i)).fmod 26) = _
          rw [em]
          exact atI_nat (let_at (Nat.mod_lt _ (by decide)))
        have ht26 : (sh + i) % 26 < 26 := Nat.mod_lt _ (by decide)
        -- word
        have lens : rest.length + (sgn (97 + (sh + i) % 26)).length ≤ sizeLine := by
          rw [hrl, show (sgn (97 + (sh + i) % 26)).length = 1 from rfl]
          exact Nat.le_trans (show cs.length + 1 ≤ 1000 by omega) (by decide)
        refine ⟨.str rest, rfl, .str (sgn _), rfl, _, _, rfl, rfl, lens, .str (sgn _), rfl, .str rest, rfl, _, _, rfl, rfl, by omega, ?_⟩
        refine ⟨by show 2 ≤ sizeLine; decide, fun q2 nq2 => ?_⟩
        generalize ht : (sh + i) % 26 = t at *
        refine ⟨.int fr, rfl, q2, _, fr, .str (if fr = 0 then rest ++ sgn (97 + t) else sgn (97 + t) ++ rest), rfl, rfl, SqL.of upd_same, ?_, ?_⟩
        · match fr, hfr with
          | 0, _ => rfl
          | 1, _ => rfl
        -- words.append(..)
        have n2p : p ≠ q2 := ne_of_none e5 nq2
        have e6 : (upd H5 q2 (.lst [V.str (rest ++ sgn (97 + t)), V.str (sgn (97 + t) ++ rest)])) p = some (.lst (ws.map V.str)) := by rw [upd_ne n2p]; exact e5
        have g6 : Gr b H (upd H5 q2 (.lst [V.str (rest ++ sgn (97 + t)), V.str (sgn (97 + t) ++ rest)])) := g5.trans (Gr.new nq2)
        have B6 : Box (upd H5 q2 (.lst [V.str (rest ++ sgn (97 + t)), V.str (sgn (97 + t) ++ rest)])) b r := B5.new nq2
        generalize upd H5 q2 (.lst [V.str (rest ++ sgn (97 + t)), V.str (sgn (97 + t) ++ rest)]) = H6 at *
        generalize hword : (if fr = 0 then rest ++ sgn (97 + t) else sgn (97 + t) ++ rest) = word
        refine ⟨.ref p, rfl, .inl ⟨rfl, _, SqL.of e6⟩, .str word, rfl, .str (sgn _), rfl, by show 2 ≤ sizeLine; decide, fun q3 nq3 => ?_⟩
        have n3p : p ≠ q3 := ne_of_none e6 nq3
        have e7 : (upd H6 q3 (.lst [V.str word, V.str (sgn (97 + t))])) p = some (.lst (ws.map V.str)) := by rw [upd_ne n3p]; exact e6
        have fin : ∀ z, GoodW fr t z → ∃ y6 y7 y8 y9 y10 ws', ([some (V.ref b), some (V.int n), some (V.str LET), some (V.int sh), some (V.int fr), some (V.ref p), some (V.int (0 + i)), some (V.int sz), some (V.str rest), some (V.str (sgn (97 + t))), some (V.str word), none] : L2.St) = [some (V.ref b), some (V.int n), some (V.str LET), some (V.int sh), some (V.int fr), some (V.ref p), y6, y7, y8, y9, y10, none] ∧ ws'.length = i + 1 ∧ WordsOk fr sh ws' ∧ Gr b H (upd (upd H6 q3 (.lst [V.str word, V.str (sgn (97 + t))])) p (.lst (ws.map V.str ++ [V.str z]))) ∧ Box (upd (upd H6 q3 (.lst [V.str word, V.str (sgn (97 + t))])) p (.lst (ws.map V.str ++ [V.str z]))) b r ∧ (upd (upd H6 q3 (.lst [V.str word, V.str (sgn (97 + t))])) p (.lst (ws.map V.str ++ [V.str z]))) p = some (.lst (ws'.map V.str)) := by
          intro z hz
          refine ⟨_, _, _, _, _, ws ++ [z], rfl, ?_, ?_, ?_, ?_, ?_⟩
          · rw [List.length_append, hl]; rfl
          · exact hw.snoc (by rw [hl, ht]; exact hz)
          · exact (g6.trans (Gr.new nq3)).upd np0
          · exact (B6.new nq3).upd npb npr
          · rw [upd_same, List.map_append]; rfl
        have lw : (ws.map V.str).length < sizeLine := by
          rw [List.length_map]
          exact Nat.lt_of_le_of_lt (show ws.length ≤ 1000 by omega) (by decide)
        refine ⟨.str word, rfl, rfl, _, rfl, ite2 (fun e => ?_) (fun e => ?_)⟩
        · refine .inr ⟨true, rfl, q3, _, _, .str (sgn (97 + t)), rfl, rfl, SqL.of upd_same, rfl, p, _, _, rfl, rfl, e7, lw, fin _ (sgn_good ht26)⟩
        · have nt : word ≠ "text" := fun z => e (decide_eq_true (congrArg V.str z))
          refine ⟨.str word, rfl, rfl, .inr ⟨_, rfl, ?_⟩⟩
          by_cases e2 : word = ("number" : Str)
          · rw [decide_eq_true (congrArg V.str e2)]
            exact ⟨q3, _, _, .str (sgn (97 + t)), rfl, rfl, SqL.of upd_same, rfl, p, _, _, rfl, rfl, e7, lw, fin _ (sgn_good ht26)⟩
          · rw [decide_eq_false (fun z => e2 (V.str.inj z))]
            refine ⟨q3, _, _, .str word, rfl, rfl, SqL.of upd_same, rfl, p, _, _, rfl, rfl, e7, lw, fin _ ?_⟩
            rw [← hword] at nt e2 ⊢
            exact word_good ht26 htl (by omega) hcs nt e2
    · rintro σ H3 ⟨y6, y7, y8, y9, y10, ws, rfl, hl, hw, g3, B3, e3⟩
      refine ⟨.ref p, rfl, q ws p H3 hl (fun z hz => ?_) (hw.nodup (by omega)) g3 B3 np0 e3⟩
      obtain ⟨k, hk, rfl⟩ := List.getElem_of_mem hz
      exact ⟨(hw k hk).nm, (hw k hk).nt, (hw k hk).nn⟩
end
end NW
namespace NW
open PySem PySem.Spec PyProof.Rows L2
open TL (tl)
open StX (pa_star)
abbrev s_Lschema : Stmt := topS 42
abbrev N_Lschema : List Str := ["_law_box_here", "_law_most", "_law_kinds", "_law_many", "_law_words_here", "_law_names", "_law_faces", "_law_unions", "_law_bases_here", "_law_common", "_law_face_table", "_law_face", "_law_k", "_law_at", "_law_row", "_law_kind_table", "_law_having", "_law_given", "_law_union_table", "_law_union", "_law_own", "_law_j", "_law_word"]
theorem sc_Lschema : FnScope N_Lschema ["_law_box_here", "_law_most", "_law_kinds"] (defScope s_Lschema) := ⟨rfl, rfl, rfl, by decide +kernel, rfl, by decide +kernel, by decide +kernel⟩
theorem cut_nat {xs : List V} {i j : Nat} (hi : i ≤ xs.length) (hj : j ≤ xs.length) : cutV xs (some (i : Int)) (some (j : Int)) = (xs.drop i).take (j - i) := by
  unfold cutV
  rw [HT.sIx_nat, HT.sIx_nat, Nat.min_eq_left hi, Nat.min_eq_left hj]
theorem cut_to {xs : List V} {j : Nat} (hj : j ≤ xs.length) : cutV xs none (some (j : Int)) = xs.take j := by
  unfold cutV
  rw [HT.sIx_nat, HT.sIx_none, Nat.min_eq_left hj, List.drop_zero, Nat.sub_zero]
theorem cut_to' {xs : List V} {j : Nat} : cutV xs none (some (j : Int)) = xs.take j := by
  unfold cutV
  rw [HT.sIx_nat, HT.sIx_none, List.drop_zero, Nat.sub_zero, List.take_eq_take_iff]
  omega
/-- all that is no dict stands, but for the box -/
def Gl (b : Addr) (H H' : Hp) : Prop := ∀ a o, a ≠ b → (∀ kvs, o ≠ .dK kvs) → H a = some o → H' a = some o
theorem Gr.gl {b : Addr} {H H' : Hp} (g : Gr b H H') : Gl b H H' := fun a o n _ e => g a o n e
theorem Gl.trans {b : Addr} {H H1 H2 : Hp} (x : Gl b H H1) (y : Gl b H1 H2) : Gl b H H2 := fun a o n k e => y a o n k (x a o n k e)
theorem Gl.upd {b D : Addr} {H : Hp} {kvs : List (Key × V)} {o : HO} (e : H D = some (.dK kvs)) : Gl b H (upd H D o) := fun a u _ k h => by
  rw [upd_ne (ne_of h e (k _))]
  exact h
theorem Gl.sh {b : Addr} {H H' : Hp} {xs : List V} (hb : H b = some (.lst xs)) (x : Gl b H H') : ∀ {s : Shp} {v : V}, ShAt H v s → ShAt H' v s := by
  intro s
  induction s with
  | base z => intro v h; exact h
  | sure s ih =>
    rintro v ⟨a, u, e, ha, hu⟩
    exact ⟨a, u, e, x _ _ (ne_of ha hb (by intro z; cases z)) (by intro _ z; cases z) ha, ih hu⟩
  | list s ih =>
    rintro v ⟨a, u, e, ha, hu⟩
    exact ⟨a, u, e, x _ _ (ne_of ha hb (by intro z; cases z)) (by intro _ z; cases z) ha, ih hu⟩
/-- what is drawn ahead of the tables -/
structure Pre (H : Hp) (b r wl nl fl ul bs cl : Addr) (ws nm fcs uns l : List Str) (cm : List (V × Shp)) : Prop where
  B : Box H b r
  hw : H wl = some (.lst (ws.map V.str))
  hn : H nl = some (.lst (nm.map V.str))
  hf : H fl = some (.lst (fcs.map V.str))
  hu : H ul = some (.lst (uns.map V.str))
  hb : H bs = some (.lst (l.map V.str))
  hc : H cl = some (.lst (cm.map (·.1)))
  n1 : wl ≠ b
  n2 : nl ≠ b
  n3 : fl ≠ b
  n4 : ul ≠ b
  n5 : bs ≠ b
  n6 : cl ≠ b
  csh : ∀ c ∈ cm, ShAt H c.1 c.2 ∧ okS l 4 false c.2
theorem Pre.gl {H H' : Hp} {b r wl nl fl ul bs cl : Addr} {ws nm fcs uns l : List Str} {cm : List (V × Shp)} (p : Pre H b r wl nl fl ul bs cl ws nm fcs uns l cm) (g : Gl b H H') (B' : Box H' b r) : Pre H' b r wl nl fl ul bs cl ws nm fcs uns l cm := by
  obtain ⟨xs, e⟩ := p.B.lst
  exact ⟨B', g _ _ p.n1 (by intro _ z; cases z) p.hw, g _ _ p.n2 (by intro _ z; cases z) p.hn, g _ _ p.n3 (by intro _ z; cases z) p.hf, g _ _ p.n4 (by intro _ z; cases z) p.hu, g _ _ p.n5 (by intro _ z; cases z) p.hb, g _ _ p.n6 (by intro _ z; cases z) p.hc, p.n1, p.n2, p.n3, p.n4, p.n5, p.n6, fun c m => ⟨g.sh e (p.csh c m).1, (p.csh c m).2⟩⟩
theorem rows_of {frs : List FRow} : ∀ {hv : List Str}, (∀ z ∈ hv, z ∈ frs.map (·.nm)) → ∃ rows : List FRow, rows.map (·.nm) = hv ∧ ∀ k ∈ rows, k ∈ frs
  | [], _ => ⟨[], rfl, fun k m => by cases m⟩
  | z :: hv, h => by
    obtain ⟨rows, e, hr⟩ := rows_of (hv := hv) fun z m => h z (List.mem_cons_of_mem _ m)
    obtain ⟨k, hk, ek⟩ := List.mem_map.mp (h z List.mem_cons_self)
    exact ⟨k :: rows, by rw [List.map_cons, e, ek], fun x m => by
      rcases List.mem_cons.mp m with rfl | m
      · exact hk
      · exact hr x m⟩
theorem eqv_nil (ow : List Str) : PyData.eqv (.list (ow.map PyData.str)) (.list []) = (ow.length == 0) := by
  cases ow with
  | nil => simp [PyData.eqv, PyData.eqvAll]
  | cons x r => simp [PyData.eqv, PyData.eqvAll]
theorem dp_strs {K : PySem.W.Frag} {H : Hp} : ∀ (l : List Str), DpAll K H (l.map V.str) (l.map PyData.str)
  | [] => .nil
  | x :: r => .cons (.str x) (dp_strs r)
theorem lay_strs : ∀ {l : List Str}, (∀ z ∈ l, IsName z) → PyData.canLayAll0 (l.map PyData.str) = true ∧ PyData.depthAll (l.map PyData.str) ≤ 1
  | [], _ => by simp [PyData.canLayAll0, PyData.depthAll]
  | x :: r, h => by
    have ih := lay_strs (l := r) fun z m => h z (List.mem_cons_of_mem _ m)
    have hx := (h x List.mem_cons_self).tx
    simp only [List.map_cons, PyData.canLayAll0, PyData.depthAll, PyData.canLay0, PyData.depth, hx, ih.1, Bool.and_self, true_and]
    omega
theorem shaped_strs {l : List Str} (h : ∀ z ∈ l, IsName z) : SeqAt.shaped (.list (l.map PyData.str)) = true := by
  have := lay_strs h
  have h1 : (PyData.list (l.map PyData.str)).canLay0 = true := by simp [PyData.canLay0, this.1]
  have h2 : (PyData.list (l.map PyData.str)).depth ≤ 64 := by
    simp only [PyData.depth]
    omega
  exact Bool.and_eq_true_iff.mpr ⟨h1, decide_eq_true h2⟩
theorem parts_sub (ws : List Str) (many nf nu : Nat) (h : nf ≤ 3) : List.Sublist (ws.take many ++ ((ws.drop many).take nf ++ (ws.drop (many + 3)).take nu)) ws := by
  have e1 : ws = ws.take many ++ ((ws.drop many).take 3 ++ ws.drop (many + 3)) := by
    rw [← List.drop_drop, List.take_append_drop, List.take_append_drop]
  conv => rhs; rw [e1]
  refine List.Sublist.append (List.Sublist.refl _) (List.Sublist.append ?_ (List.take_sublist _ _))
  exact (List.take_prefix_take_left h).sublist
theorem sub_take {α : Type} {l : List α} {i j : Nat} : ∀ x ∈ (l.drop i).take j, x ∈ l := fun x h => List.mem_of_mem_drop (List.mem_of_mem_take h)
section
variable {P : Program} {w : World} {K : PySem.W.Frag} {mg : Str → Option Value} {base : Heap}

def spLschema : Sp := fun vs H Q _ => ∃ (b r : Addr) (most kinds : Nat), vs = [.ref b, .int most, .int kinds] ∧ Box H b r ∧ most ≤ 4 ∧ 1 ≤ kinds ∧ kinds ≤ 6 ∧
  ∀ (q kt ft ut : Addr) (ks : List KRow) (fs : List FRow) (us : List URow) (root : Str) H', H' q = some (.tup [.ref kt, .ref ft, .ref ut, .str root]) → SchAt H' kt ft ut ks fs us → SchOk ks fs us root → Gr b H H' → Box H' b r → Q (.ref q) H'
theorem ok_Lschema {f f1 f2 f3 f4 : Addr} {fd fd1 fd2 fd3 fd4 : FuncData} (D : Df K mg "_law_schema" s_Lschema f fd ["_law_box_here", "_law_most", "_law_kinds"]) (D_Ldraw : Df K mg "_law_draw" s_Ldraw f1 fd1 ["_law_box_here", "_law_many"])
    (D_Lshape : Df K mg "_law_shape" s_Lshape f2 fd2 ["_law_box_here", "_law_bases_here", "_law_most"]) (D_Lwords : Df K mg "_law_words" s_Lwords f3 fd3 ["_law_box_here", "_law_many"])
    (D_Lkind : Df K mg "_law_kind" s_Lkind f4 fd4 ["_law_box_here", "_law_faces", "_law_names", "_law_common", "_law_bases_here", "_law_most"]) (T : Nms mg)
    (G_Ldraw : FnOk P w K mg base CX0 1 f1 fd1 ["_law_box_here", "_law_many"] spLdraw) (G_Lshape : FnOk P w K mg base CX0 2 f2 fd2 ["_law_box_here", "_law_bases_here", "_law_most"] spLshape) (G_Lwords : FnOk P w K mg base CX0 2 f3 fd3 ["_law_box_here", "_law_many"] spLwords)
    (G_Lkind : FnOk P w K mg base CX0 3 f4 fd4 ["_law_box_here", "_law_faces", "_law_names", "_law_common", "_law_bases_here", "_law_most"] spLkind) : FnOk P w K mg base CX0 4 f fd ["_law_box_here", "_law_most", "_law_kinds"] spLschema := by
  refine D.F.ok sc_Lschema (fun vs H Q E h => ?_) (fun cdv A outer s H vs Q E hr h => ?_)
  · obtain ⟨b, r, most, kinds, rfl, _⟩ := h
    rfl
  · obtain ⟨b, r, most, kinds, rfl, B, hmost, hk1, hk6, q⟩ := h
    have hu := hu_of hr
    refine ⟨_, (pss_cons (ps_set (i := 3) sc_Lschema.nd rfl (.inr rfl) (pe_op op_add pe_int (pe_call G_Ldraw (hr.mono (by decide)) (by rfl) D_Ldraw.g D_Ldraw.F.kp D_Ldraw.b .nil pass0 (pa_cons (pv 0) (pa_cons (pv 2) pa_nil)))))
      (pss_cons (ps_set (i := 4) sc_Lschema.nd rfl (.inr rfl) (pe_call G_Lwords (hr.mono (by decide)) (by rfl) D_Lwords.g D_Lwords.F.kp D_Lwords.b .nil pass0 (pa_cons (pv 0) (pa_cons (pe_op op_add (pv 3) pe_int) pa_nil))))
      (pss_cons (ps_set (i := 5) sc_Lschema.nd rfl (.inl rfl) (pe_call G_Lwords (hr.mono (by decide)) (by rfl) D_Lwords.g D_Lwords.F.kp D_Lwords.b .nil pass0 (pa_cons (pv 0) (pa_cons pe_int pa_nil))))
      (pss_cons (ps_set (i := 6) sc_Lschema.nd rfl (.inl rfl) (pe_slice sl_list (pv 4) (po_some (pv 3)) (po_some (pe_op op_add (pv 3) (pe_call G_Ldraw (hr.mono (by decide)) (by rfl) D_Ldraw.g D_Ldraw.F.kp D_Ldraw.b .nil pass0 (pa_cons (pv 0) (pa_cons pe_int pa_nil)))))))
      (pss_cons (ps_set (i := 7) sc_Lschema.nd rfl (.inl rfl) (pe_slice sl_list (pv 4) (po_some (pe_op op_add (pv 3) pe_int)) (po_some (pe_op op_add (pe_op op_add (pv 3) pe_int) (pe_call G_Ldraw (hr.mono (by decide)) (by rfl) D_Ldraw.g D_Ldraw.F.kp D_Ldraw.b .nil pass0 (pa_cons (pv 0) (pa_cons pe_int pa_nil)))))))
      (pss_cons (ps_set (i := 8) sc_Lschema.nd rfl (.inr rfl) (pe_op op_cat (pe_op op_cat (pe_op op_cat (pe_lst (pa_cons pe_str (pa_cons pe_str pa_nil))) (pe_slice sl_list (pv 4) po_none (po_some (pv 3)))) (pv 6)) (pv 7)))
      (pss_cons (ps_setLc (i := 9) (own := [("_law_k", 12)]) (g := (gName 12)) (tt := tYes) rfl sc_Lschema.nd rfl rfl (sw_true rfl rfl rfl (by decide +kernel)) (pi_range1 (by rfl) T.n_range (pa_cons pe_int pa_nil)) (blkOk_by (own := [("_law_k", 12)]) (N := N_Lschema) (sc := defScope s_Lschema) (by decide +kernel)) (fun _ _ _ _ _ => (pg_name (i := 12) sc_Lschema.nd rfl (.inl rfl))) (fun _ _ _ _ _ => pts_nil) (fun _ _ _ _ _ => (pe_call G_Lshape (hr.mono (by decide)) (by rfl) D_Lshape.g D_Lshape.F.kp D_Lshape.b .nil pass0 (pa_cons (pv 0) (pa_cons (pv 8) (pa_cons (pv 1) pa_nil))))))
      (pss_cons (ps_set (i := 10) sc_Lschema.nd rfl (.inr rfl) pe_dnewK)
      (pss_cons (ps_for PassesOwn.never rfl (pi_list (pv 6)) (pg_name (i := 11) sc_Lschema.nd rfl (.inl rfl))
       (pss_cons (ps_dput hu (pv 10) (pv 11) pe_dnewK rfl)
        (pss_one (ps_for PassesOwn.never rfl (pi_range1 (by rfl) T.n_range (pa_cons (pe_op op_add pe_int (pe_call G_Ldraw (hr.mono (by decide)) (by rfl) D_Ldraw.g D_Ldraw.F.kp D_Ldraw.b .nil pass0 (pa_cons (pv 0) (pa_cons pe_int pa_nil)))) pa_nil)) (pg_name (i := 12) sc_Lschema.nd rfl (.inr rfl))
         (pss_cons (ps_set (i := 13) sc_Lschema.nd rfl (.inl rfl) (pe_call G_Ldraw (hr.mono (by decide)) (by rfl) D_Ldraw.g D_Ldraw.F.kp D_Ldraw.b .nil pass0 (pa_cons (pv 0) (pa_cons pe_int pa_nil))))
          (pss_cons (ps_set (i := 14) sc_Lschema.nd rfl (.inl rfl) (pe_dget hu (pv 10) (pv 11) (fun _ _ => rfl)))
          (pss_one (ps_dput hu (pv 14) (pe_ix ix_list (pv 5) (pv 13) (fun _ _ => rfl)) (pe_ix ix_list (pv 9) (pv 13) (fun _ _ => rfl)) rfl))))))))
      (pss_cons (ps_set (i := 15) sc_Lschema.nd rfl (.inl rfl) pe_dnewK)
      (pss_cons (ps_for PassesOwn.never rfl (pi_range1 (by rfl) T.n_range (pa_cons (pv 3) pa_nil)) (pg_name (i := 12) sc_Lschema.nd rfl (.inr rfl))
       (pss_cons (ps_setLc (i := 16) (own := [("_law_j", 21), ("_law_face", 11)]) (g := gTup K 2 (gCons (gName 21) (gCons (gName 11) gNil))) rfl sc_Lschema.nd rfl rfl (sw_true rfl rfl rfl (by decide +kernel)) (pi_enum (by rfl) T.n_enumerate (pa_cons (pv 6) pa_nil)) (blkOk_by (own := [("_law_j", 21), ("_law_face", 11)]) (N := N_Lschema) (sc := defScope s_Lschema) (by decide +kernel)) (fun _ _ _ _ _ => (pg_tup (by rfl) (pgs_cons (pg_name (i := 21) sc_Lschema.nd rfl (.inl rfl)) (pgs_cons (pg_name (i := 11) sc_Lschema.nd rfl (.inl rfl)) pgs_nil)))) (fun _ _ _ _ _ => pts_one (PW.pt (pw_or (pt_cmpR op_eq (pe_op op_modN (pe_callTy call_int1 (by rfl) T.n_int (by decide +kernel) (pa_cons (pv 21) pa_nil)) (pv 3)) (pv 12) (nomark _)) (pw_or1 (pt_cmpR op_eq (pe_call G_Ldraw (hr.mono (by decide)) (by rfl) D_Ldraw.g D_Ldraw.F.kp D_Ldraw.b .nil pass0 (pa_cons (pv 0) (pa_cons pe_int pa_nil))) pe_int (nomark _)))))) (fun _ _ _ _ _ => (pv 11)))
        (pss_cons (ps_setLc (i := 17) (own := [("_law_face", 11)]) (g := (gName 11)) (tt := tYes) rfl sc_Lschema.nd rfl rfl (sw_true rfl rfl rfl (by decide +kernel)) (pi_list (pv 16)) (blkOk_by (own := [("_law_face", 11)]) (N := N_Lschema) (sc := defScope s_Lschema) (by decide +kernel)) (fun _ _ _ _ _ => (pg_name (i := 11) sc_Lschema.nd rfl (.inl rfl))) (fun _ _ _ _ _ => pts_nil) (fun _ _ _ _ _ => (pe_dget hu (pv 10) (pv 11) (fun _ _ => rfl))))
        (pss_one (ps_dput hu (pv 15) (pe_ix ix_list (pv 4) (pv 12) (fun _ _ => rfl)) (pe_tup (pa_cons (pe_callTy call_tuple_of (by rfl) T.n_tuple (by decide +kernel) (pa_cons (pv 16) pa_nil)) (pa_cons (pe_call G_Lkind (hr.mono (by decide)) (by rfl) D_Lkind.g D_Lkind.F.kp D_Lkind.b .nil pass0 (pa_cons (pv 0) (pa_cons (pv 17) (pa_cons (pv 5) (pa_cons (pv 9) (pa_cons (pv 8) (pa_cons (pv 1) pa_nil))))))) pa_nil))) rfl)))))
      (pss_cons (ps_set (i := 18) sc_Lschema.nd rfl (.inl rfl) pe_dnewK)
      (pss_cons (ps_for PassesOwn.never rfl (pi_list (pv 7)) (pg_name (i := 19) sc_Lschema.nd rfl (.inl rfl))
       (pss_cons (ps_setLc (i := 20) (own := [("_law_word", 22)]) (g := (gName 22)) rfl sc_Lschema.nd rfl rfl (sw_true rfl rfl rfl (by decide +kernel)) (pi_list (pe_slice sl_list (pv 4) po_none (po_some (pv 3)))) (blkOk_by (own := [("_law_word", 22)]) (N := N_Lschema) (sc := defScope s_Lschema) (by decide +kernel)) (fun _ _ _ _ _ => (pg_name (i := 22) sc_Lschema.nd rfl (.inl rfl))) (fun _ _ _ _ _ => pts_one (pt_cmpR op_eq (pe_call G_Ldraw (hr.mono (by decide)) (by rfl) D_Ldraw.g D_Ldraw.F.kp D_Ldraw.b .nil pass0 (pa_cons (pv 0) (pa_cons pe_int pa_nil))) pe_int (nomark _))) (fun _ _ _ _ _ => (pv 22)))
        (pss_cons (ps_set (i := 20) sc_Lschema.nd rfl (.inl rfl) (pe_op op_cat (pe_slice sl_list (pv 20) po_none (po_some pe_int)) (pe_lc (own := [("_law_k", 12)]) (g := (gName 12)) (tt := tYes) rfl sc_Lschema.nd (pi_range1 (by rfl) T.n_range (pa_cons (pe_callTy call_int1 (by rfl) T.n_int (by decide +kernel) (pa_cons (pe_cmpR (op_eqD hr.units) (pv 20) (pe_lst pa_nil) (nomark _)) pa_nil)) pa_nil)) (blkOk_by (own := [("_law_k", 12)]) (N := N_Lschema) (sc := defScope s_Lschema) (by decide +kernel)) (fun _ _ _ _ _ => (pg_name (i := 12) sc_Lschema.nd rfl (.inl rfl))) (fun _ _ _ _ _ => pts_nil) (fun _ _ _ _ _ => (pe_ix (ix_listK K) (pv 4) (pe_call G_Ldraw (hr.mono (by decide)) (by rfl) D_Ldraw.g D_Ldraw.F.kp D_Ldraw.b .nil pass0 (pa_cons (pv 0) (pa_cons (pv 3) pa_nil))) (fun _ _ => rfl))))))
        (pss_one (ps_dput hu (pv 18) (pv 19) (pe_callTy call_tuple_of (by rfl) T.n_tuple (by decide +kernel) (pa_cons (pe_revL (pv 20)) pa_nil)) rfl)))))
      (pss_one (ps_ret (pe_tup (pa_cons (pv 15) (pa_cons (pv 10) (pa_cons (pv 18) (pa_cons (pe_ix (ix_listK K) (pv 4) (pe_call G_Ldraw (hr.mono (by decide)) (by rfl) D_Ldraw.g D_Ldraw.F.kp D_Ldraw.b .nil pass0 (pa_cons (pv 0) (pa_cons (pv 3) pa_nil))) (fun _ _ => rfl)) pa_nil)))))))))))))))))))), ?_⟩
    -- many
    refine ⟨.ref b, rfl, .int kinds, rfl, b, r, kinds, rfl, B, by omega, by omega, fun d H1 d0 d1 g1 B1 => ⟨_, _, rfl, rfl, ?_⟩⟩
    obtain ⟨d, rfl⟩ := Int.eq_ofNat_of_zero_le d0
    have em : (fun (i j : Int) => V.int (i + j)) 1 (d : Int) = V.int ((d + 1 : Nat) : Int) := by
      show V.int (1 + (d : Int)) = _
      rw [show (1 + (d : Int)) = ((d + 1 : Nat) : Int) by omega]
    rw [em]
    obtain ⟨many, hmany⟩ : ∃ many, many = d + 1 := ⟨_, rfl⟩
    rw [← hmany]
    have m0 : 1 ≤ many := by omega
    have m6 : many ≤ 6 := by omega
    clear em d0 d1 hmany
    -- words, names
    refine ⟨.ref b, rfl, .int many, rfl, _, _, rfl, rfl, b, r, many + 6, ?_, B1, by omega, fun ws wl H2 hwl hwok hwnd g2 B2 nw ew => ?_⟩
    · show [V.ref b, V.int ((many : Int) + 6)] = [V.ref b, V.int ((many + 6 : Nat) : Int)]
      rw [show ((many : Int) + 6) = ((many + 6 : Nat) : Int) by omega]
    refine ⟨.ref b, rfl, b, r, 5, rfl, B2, by omega, fun nm nl H3 hnl hnok hnnd g3 B3 nn en => ?_⟩
    have nwb := B1.neb nw
    have nnb := B2.neb nn
    have ew3 := g3 _ _ nwb ew
    have lw : (ws.map V.str).length = many + 6 := by rw [List.length_map, hwl]
    -- faces
    refine ⟨.ref wl, rfl, .int many, rfl, many, rfl, .int many, rfl, .ref b, rfl, b, r, 4, rfl, B3, by decide, by decide, fun nf H4 f0 f1 g4 B4 => ?_⟩
    obtain ⟨nf, rfl⟩ := Int.eq_ofNat_of_zero_le f0
    have hnf : nf ≤ 3 := by omega
    have ew4 := g4 _ _ nwb ew3
    refine ⟨_, _, rfl, rfl, _, rfl, wl, ws.map V.str, rfl, SqL.of ew4, fun fl nfl => ?_⟩
    rw [show ((many : Int) + (nf : Int)) = ((many + nf : Nat) : Int) by omega, cut_nat (by omega) (by omega), show many + nf - many = nf by omega, ← List.map_drop, ← List.map_take]
    generalize hfcs : (ws.drop many).take nf = fcs
    have n3b := B4.neb nfl
    -- unions
    refine ⟨.ref wl, rfl, .int many, rfl, _, _, rfl, rfl, _, rfl, .int many, rfl, _, _, rfl, rfl, .ref b, rfl, b, r, 4, rfl, B4.new nfl, by decide, by decide, fun nu H5 u0 u1 g5 B5 => ?_⟩
    obtain ⟨nu, rfl⟩ := Int.eq_ofNat_of_zero_le u0
    have hnu : nu ≤ 3 := by omega
    have g45 : Gr b H4 H5 := (Gr.new nfl).trans g5
    have ew5 := g45 _ _ nwb ew4
    have ef5 := g5 _ _ n3b upd_same
    refine ⟨_, _, rfl, rfl, _, rfl, wl, ws.map V.str, rfl, SqL.of ew5, fun ul nul => ?_⟩
    show tSeq _ _ _ (List.set _ 7 _) (upd H5 ul (.lst (cutV (ws.map V.str) (some ((many : Int) + 3)) (some ((many : Int) + 3 + (nu : Int))))))
    rw [show ((many : Int) + 3) = ((many + 3 : Nat) : Int) by omega, show (((many + 3 : Nat) : Int) + (nu : Int)) = ((many + 3 + nu : Nat) : Int) by omega, cut_nat (by omega) (by omega), show many + 3 + nu - (many + 3) = nu by omega, ← List.map_drop, ← List.map_take]
    generalize huns : (ws.drop (many + 3)).take nu = uns
    have n4b := B5.neb nul
    have g6 : Gr b H5 (upd H5 ul (.lst (uns.map V.str))) := Gr.new nul
    have B6 : Box (upd H5 ul (.lst (uns.map V.str))) b r := B5.new nul
    have eu6 : (upd H5 ul (.lst (uns.map V.str))) ul = some (.lst (uns.map V.str)) := upd_same
    generalize upd H5 ul (.lst (uns.map V.str)) = H6 at g6 B6 eu6
    have ew6 := g6 _ _ nwb ew5
    have ef6 := g6 _ _ n3b ef5
    -- bases
    refine ⟨by show 2 ≤ sizeLine; decide, fun a1 na1 => ?_⟩
    have s7 : Same H6 (upd H6 a1 (.lst [V.str "number", V.str "text"])) := same_new na1
    have e71 : (upd H6 a1 (.lst [V.str "number", V.str "text"])) a1 = some (.lst [V.str "number", V.str "text"]) := upd_same
    generalize upd H6 a1 (.lst [V.str "number", V.str "text"]) = H7 at s7 e71
    refine ⟨.ref wl, rfl, .int many, rfl, many, rfl, wl, ws.map V.str, rfl, SqL.of (s7 _ _ ew6), fun a2 na2 => ?_⟩
    rw [cut_to (by omega), ← List.map_take]
    have s8 : Same H7 (upd H7 a2 (.lst ((ws.take many).map V.str))) := same_new na2
    have e82 : (upd H7 a2 (.lst ((ws.take many).map V.str))) a2 = some (.lst ((ws.take many).map V.str)) := upd_same
    generalize upd H7 a2 (.lst ((ws.take many).map V.str)) = H8 at s8 e82
    have lt : (ws.take many).length = many := by rw [List.length_take, hwl]; omega
    have lf : fcs.length = nf := by rw [← hfcs, List.length_take, List.length_drop, hwl]; omega
    have lu : uns.length = nu := by rw [← huns, List.length_take, List.length_drop, hwl]; omega
    have hS : ∀ n : Nat, n ≤ 1000 → n ≤ sizeLine := fun n h => Nat.le_trans h (by decide)
    refine ⟨a1, a2, _, _, rfl, rfl, s8 _ _ e71, e82, hS _ (by rw [List.length_map, lt]; show 2 + many ≤ 1000; omega), fun a3 na3 => ?_⟩
    have s9 : Same H8 (upd H8 a3 (.lst ([V.str "number", V.str "text"] ++ (ws.take many).map V.str))) := same_new na3
    have e93 : (upd H8 a3 (.lst ([V.str "number", V.str "text"] ++ (ws.take many).map V.str))) a3 = some (.lst ([V.str "number", V.str "text"] ++ (ws.take many).map V.str)) := upd_same
    generalize upd H8 a3 (.lst ([V.str "number", V.str "text"] ++ (ws.take many).map V.str)) = H9 at s9 e93
    have s69 : Same H6 H9 := (s7.trans s8).trans s9
    refine ⟨.ref fl, rfl, a3, fl, _, _, rfl, rfl, e93, s69 _ _ ef6, hS _ (by rw [List.length_append, List.length_map, List.length_map, lt, lf]; show 2 + many + nf ≤ 1000; omega), fun a4 na4 => ?_⟩
    refine ⟨.ref ul, rfl, a4, ul, _, _, rfl, rfl, upd_same, same_new na4 _ _ (s69 _ _ eu6), hS _ (by rw [List.length_append, List.length_append, List.length_map, List.length_map, List.length_map, lt, lf, lu]; show 2 + many + nf + nu ≤ 1000; omega), fun bs nbs => ?_⟩
    have el : ([V.str "number", V.str "text"] ++ (ws.take many).map V.str ++ fcs.map V.str ++ uns.map V.str) = (LV ++ (ws.take many ++ (fcs ++ uns))).map V.str := by
      simp only [List.map_append, List.append_assoc]
      rfl
    rw [el]
    generalize hl : LV ++ (ws.take many ++ (fcs ++ uns)) = l
    have g10 : Gr b H9 (upd (upd H9 a4 (.lst ([V.str "number", V.str "text"] ++ (ws.take many).map V.str ++ fcs.map V.str))) bs (.lst (l.map V.str))) := (Gr.new na4).trans (Gr.new nbs)
    have B9 : Box H9 b r := by
      obtain ⟨xs, e⟩ := B6.lst
      exact B6.gr (fun a o _ e => s69 a o e) ((s69 _ _ e).trans e.symm)
    have n5b := (B9.new na4).neb nbs
    have B10 : Box (upd (upd H9 a4 (.lst ([V.str "number", V.str "text"] ++ (ws.take many).map V.str ++ fcs.map V.str))) bs (.lst (l.map V.str))) b r := (B9.new na4).new nbs
    have eb10 : (upd (upd H9 a4 (.lst ([V.str "number", V.str "text"] ++ (ws.take many).map V.str ++ fcs.map V.str))) bs (.lst (l.map V.str))) bs = some (.lst (l.map V.str)) := upd_same
    generalize upd (upd H9 a4 (.lst ([V.str "number", V.str "text"] ++ (ws.take many).map V.str ++ fcs.map V.str))) bs (.lst (l.map V.str)) = H10 at g10 B10 eb10
    have g610 : Gr b H6 H10 := (gr_x s69).trans g10
    have ew10 := g610 _ _ nwb ew6
    have ef10 := g610 _ _ n3b ef6
    have eu10 := g610 _ _ n4b eu6
    have en10 := g610 _ _ nnb (g6 _ _ nnb (g45 _ _ nnb (g4 _ _ nnb en)))
    have gA : Gr b H H10 := (((g1.trans g2).trans (g3.trans g4)).trans (g45.trans g6)).trans g610
    have ll : l.length = 2 + (many + (nf + nu)) := by rw [← hl, List.length_append, List.length_append, List.length_append, lt, lf, lu]; rfl
    clear s7 e71 s8 e82 s9 e93 na1 na2 na3 na4 nbs s69 el g10 B9 g610 ew6 ef6 eu6 ew5 ef5 ew4 ew3 nul nfl g45 g6 B6
    -- common
    refine ⟨5, rfl, by decide, by decide, fun cl ncl => lc_range (lo := 0) (n := 5) (fun i H' => ∃ cm : List (V × Shp), cm.length = i ∧ (∀ c ∈ cm, ShAt H' c.1 c.2 ∧ okS l 4 false c.2) ∧ Gr b H10 H' ∧ Box H' b r ∧ H' cl = some (.lst (cm.map (·.1)))) ?_ ?_ ?_⟩
    · exact ⟨[], rfl, (fun c m => by cases m), Gr.new ncl, B10.new ncl, upd_same⟩
    · rintro i H11 hi ⟨cm, hcl, hcm, g11, B11, ec⟩
      have n6b := B10.neb ncl
      refine ⟨rfl, lcT ⟨.ref b, rfl, .ref bs, rfl, .int most, rfl, b, r, bs, l, most, rfl, B11, g11 _ _ n5b eb10, n5b, by omega, by omega, hmost, fun v s H12 hv hs g12 B12 => ⟨_, g12 _ _ n6b ec, ?_, cm ++ [(v, s)], ?_, ?_, (g11.trans g12).upd ncl, B12.upd n6b (B10.ner ncl), ?_⟩⟩⟩
      · rw [List.length_map]
        exact Nat.lt_of_le_of_lt (show cm.length ≤ 1000 by omega) (by decide)
      · rw [List.length_append, hcl]; rfl
      · intro c hc
        obtain ⟨xs, exs⟩ := B11.lst
        have ecl := g12 _ _ n6b ec
        rcases List.mem_append.mp hc with hc | hc
        · exact ⟨((hcm c hc).1.grO (Oth.lst exs) g12).grO (Oth.lst ecl) Gr.box, (hcm c hc).2⟩
        · obtain rfl := List.mem_singleton.mp hc
          exact ⟨hv.grO (Oth.lst ecl) Gr.box, hs⟩
      · rw [upd_same, List.map_append]
        rfl
    · rintro H11 ⟨cm, hcl, hcm, g11, B11, ec⟩
      have n6b := B10.neb ncl
      have P11 : Pre H11 b r wl nl fl ul bs cl ws nm fcs uns l cm := ⟨B11, g11 _ _ nwb ew10, g11 _ _ nnb en10, g11 _ _ n3b ef10, g11 _ _ n4b eu10, g11 _ _ n5b eb10, ec, nwb, nnb, n3b, n4b, n5b, n6b, hcm⟩
      have gB := gA.trans g11
      clear hcm g11 ec ew10 en10 ef10 eu10 eb10 gA B10 ncl
      -- the words' parts
      have fnd : fcs.Nodup := by rw [← hfcs]; exact (hwnd.sublist (List.drop_sublist _ _)).sublist (List.take_sublist _ _)
      have und : uns.Nodup := by rw [← huns]; exact (hwnd.sublist (List.drop_sublist _ _)).sublist (List.take_sublist _ _)
      have fsub : ∀ z ∈ fcs, z ∈ ws := fun z m => by rw [← hfcs] at m; exact sub_take z m
      have usub : ∀ z ∈ uns, z ∈ ws := fun z m => by rw [← huns] at m; exact sub_take z m
      refine fun ft nft => ?_
      have nftb := B11.neb nft
      have nftr := B11.ner nft
      have nft0 : H ft = none := gB.free nftb nft
      have P12 := P11.gl (Gr.new (o := .dK []) nft).gl (B11.new nft)
      have gC := gB.trans (Gr.new (o := .dK []) nft)
      have eft : (upd H11 ft (.dK [])) ft = some (.dK (fkvs [])) := upd_same
      generalize upd H11 ft (.dK []) = H12 at P12 gC eft
      have n6b' : cl ≠ b := n6b
      clear P11 gB B11 n6b
      refine ⟨.ref fl, rfl, fl, rfl, ⟨_, SqL.of P12.hf⟩, ?_⟩
      refine for_list (xs := fcs.map V.str) (fun i σ H' => ∃ (y11 y12 y13 y14 : Option V) (frs : List FRow), σ = [some (.ref b), some (.int most), some (.int kinds), some (.int many), some (.ref wl), some (.ref nl), some (.ref fl), some (.ref ul), some (.ref bs), some (.ref cl), some (.ref ft), y11, y12, y13, y14, none, none, none, none, none, none, none, none] ∧
        frs.map (·.nm) = fcs.take i ∧ (∀ f ∈ frs, FldAt H' f.da f.fds ∧ f.da ≠ ft ∧ H f.da = none ∧ 1 ≤ f.fds.length ∧ f.fds.length ≤ 4 ∧ (f.fds.map (·.1)).Nodup ∧ ∀ x ∈ f.fds, Com nm cm x) ∧ H' ft = some (.dK (fkvs frs)) ∧ Pre H' b r wl nl fl ul bs cl ws nm fcs uns l cm ∧ Gr b H H')
        ⟨none, none, none, none, [], rfl, rfl, (fun f m => by cases m), eft, P12, gC⟩ ?_ ?_ ?_
      · rintro i σ H' _ ⟨_, _, _, _, frs, _, _, _, _, Pz, _⟩
        exact SqL.of Pz.hf
      · rintro i x σ H1 ex ⟨y11, y12, y13, y14, frs, rfl, hnm, hat, eF, Pz, gz⟩
        rw [List.getElem?_map] at ex
        cases er : fcs[i]? with
        | none => rw [er] at ex; cases ex
        | some face =>
          rw [er] at ex
          cases ex
          have hi := (List.getElem?_eq_some_iff.mp er).1
          have hlen : frs.length = i := by
            have e := congrArg List.length hnm
            rw [List.length_map, List.length_take] at e
            omega
          have hface : face ∉ frs.map (·.nm) := by
            rw [hnm]
            have := name_new (f := fun z : Str => z) (ks := fcs) (by rw [List.map_id']; exact fnd) er
            rw [List.map_id'] at this
            exact this
          -- face_table[face] = {}
          refine fun d nd => ?_
          have ndb := Pz.B.neb nd
          have ndr := Pz.B.ner nd
          have nd0 : H d = none := gz.free ndb nd
          have ndf : d ≠ ft := (ne_of_none eF nd).symm
          refine ⟨.ref ft, rfl, .str face, rfl, ft, _, rfl, DPut.k (k := Sum.inr face) (kvs := fkvs frs) (by rw [upd_ne (ne_of_none eF nd)]; exact eF) ?_, ?_⟩
          · rw [show (fkvs frs).length = frs.length from List.length_map ..]
            exact Nat.lt_of_le_of_lt (show frs.length ≤ 1000 by omega) (by decide)
          have eput : putK (fkvs frs) (Sum.inr face) (.ref d) = fkvs (frs ++ [⟨face, d, []⟩]) := put_snoc (f := fun k : FRow => k.nm) (g := fun k => V.ref k.da) (r := ⟨face, d, []⟩) hface
          rw [eput]
          have eF0 : (upd H1 d (.dK [])) ft = some (.dK (fkvs frs)) := by rw [upd_ne (ne_of_none eF nd)]; exact eF
          have P2 : Pre (upd (upd H1 d (.dK [])) ft (.dK (fkvs (frs ++ [⟨face, d, []⟩])))) b r wl nl fl ul bs cl ws nm fcs uns l cm := (Pz.gl (Gr.new nd).gl (Pz.B.new nd)).gl (Gl.upd eF0) ((Pz.B.new nd).upd nftb nftr)
          have g2' : Gr b H (upd (upd H1 d (.dK [])) ft (.dK (fkvs (frs ++ [⟨face, d, []⟩])))) := (gz.trans (Gr.new nd)).upd nft0
          have hat2 : ∀ f ∈ frs, FldAt (upd (upd H1 d (.dK [])) ft (.dK (fkvs (frs ++ [⟨face, d, []⟩])))) f.da f.fds ∧ f.da ≠ d := fun f m => ⟨((hat f m).1.same (same_new nd)).put eF0 (hat f m).2.1, ne_of_none (hat f m).1.at_ nd⟩
          have eF2 : (upd (upd H1 d (.dK [])) ft (.dK (fkvs (frs ++ [⟨face, d, []⟩])))) ft = some (.dK (fkvs (frs ++ [⟨face, d, []⟩]))) := upd_same
          have ed2 : FldAt (upd (upd H1 d (.dK [])) ft (.dK (fkvs (frs ++ [⟨face, d, []⟩])))) d [] := ⟨by rw [upd_ne ndf, upd_same]; rfl, fun f m => by cases m⟩
          generalize upd (upd H1 d (.dK [])) ft (.dK (fkvs (frs ++ [⟨face, d, []⟩]))) = H2 at P2 g2' hat2 eF2 ed2
          -- for k in range(1 + draw(box, 2))
          refine ⟨.ref b, rfl, b, r, 2, rfl, P2.B, by decide, by decide, fun n H3 n0 n1 g3 B3 => ?_⟩
          obtain ⟨n, rfl⟩ := Int.eq_ofNat_of_zero_le n0
          have hn : n < 2 := by omega
          refine ⟨_, _, rfl, rfl, (1 + (n : Int)), rfl, by omega, by omega, ?_⟩
          rw [show ((1 : Int) + (n : Int)).toNat = n + 1 by omega]
          have P3 := P2.gl g3.gl B3
          obtain ⟨bx, ebx⟩ := P2.B.lst
          refine for_range (lo := 0) (n := n + 1) (fun j σ H' => ∃ (y12 y13 y14 : Option V) (fds : List Fld), σ = [some (.ref b), some (.int most), some (.int kinds), some (.int many), some (.ref wl), some (.ref nl), some (.ref fl), some (.ref ul), some (.ref bs), some (.ref cl), some (.ref ft), some (.str face), y12, y13, y14, none, none, none, none, none, none, none, none] ∧
            FldAt H' d fds ∧ (fds.map (·.1)).Nodup ∧ (∀ x ∈ fds, Com nm cm x) ∧ fds.length ≤ j ∧ (0 < j → 1 ≤ fds.length) ∧ (∀ f ∈ frs, FldAt H' f.da f.fds) ∧ H' ft = some (.dK (fkvs (frs ++ [⟨face, d, []⟩]))) ∧ Pre H' b r wl nl fl ul bs cl ws nm fcs uns l cm ∧ Gr b H H')
            ⟨y12, y13, y14, [], rfl, ed2.gr (Oth.lst ebx) g3, List.nodup_nil, (fun x m => by cases m), Nat.le_refl _, (fun h => absurd h (Nat.lt_irrefl _)), fun f m => (hat2 f m).1.gr (Oth.lst ebx) g3, g3 _ _ nftb eF2, P3, g2'.trans g3⟩ ?_ ?_
          · rintro j σ H4 hj ⟨y12, y13, y14, fds, rfl, hd, hnd, hcom, hl1, hl2, hold, eF4, P4, g4⟩
            refine ⟨.ref b, rfl, b, r, 5, rfl, P4.B, by decide, by decide, fun at_ H5 a0 a1 g5 B5 => ?_⟩
            obtain ⟨at_, rfl⟩ := Int.eq_ofNat_of_zero_le a0
            have ha5 : at_ < 5 := by omega
            obtain ⟨bx4, ebx4⟩ := P4.B.lst
            have P5 := P4.gl g5.gl B5
            have hd5 := hd.gr (Oth.lst ebx4) g5
            have eF5 := g5 _ _ nftb eF4
            have hni : nm[at_]? = some (nm[at_]'(by omega)) := List.getElem?_eq_getElem _
            have hci : cm[at_]? = some (cm[at_]'(by omega)) := List.getElem?_eq_getElem _
            generalize nm[at_]'(by omega) = z at hni
            generalize cm[at_]'(by omega) = c at hci
            have an : atI (nm.map V.str) (at_ : Int) = some (.str z) := atI_nat (by rw [List.getElem?_map, hni]; rfl)
            have ac : atI (cm.map (·.1)) (at_ : Int) = some c.1 := atI_nat (by rw [List.getElem?_map, hci]; rfl)
            have vF : valV (fkvs (frs ++ [⟨face, d, []⟩])) (Sum.inr face) = some (.ref d) := fkvs_val (k := ⟨face, d, []⟩) (by
              rw [List.map_append]
              exact List.nodup_append.mpr ⟨by rw [hnm]; exact fnd.sublist (List.take_sublist _ _), by simp, fun a ha b hb e => hface (by rw [show face = a from (e.trans (List.mem_singleton.mp hb)).symm]; exact ha)⟩) (List.mem_append_right _ (List.mem_singleton.mpr rfl))
            refine ⟨.ref ft, rfl, .str face, rfl, ft, .ref d, rfl, .inl ⟨_, .inr face, .inl eF5, rfl, vF.symm⟩, ?_⟩
            refine ⟨.ref cl, rfl, .int at_, rfl, cl, _, _, c.1, rfl, rfl, SqL.of P5.hc, ac, .ref d, rfl, .ref nl, rfl, .int at_, rfl, nl, _, _, .str z, rfl, rfl, SqL.of P5.hn, an, d, _, rfl, DPut.k (k := Sum.inr z) hd5.at_ ?_, ?_⟩
            · rw [show (fkv fds).length = fds.length from List.length_map ..]
              exact Nat.lt_of_le_of_lt (show fds.length ≤ 1000 by omega) (by decide)
            rw [show putK (fkv fds) (Sum.inr z) c.1 = fkv (putFl fds (z, c)) from putFl_kv fds (z, c)]
            have up : ∀ {v : V} {s : Shp}, ShAt H5 v s → ShAt (upd H5 d (.dK (fkv (putFl fds (z, c))))) v s := fun h => h.gr (xs := []) (.inr ⟨_, hd5.at_⟩) Gr.box
            have cz : Com nm cm (z, c) := ⟨at_, hni, hci⟩
            refine ⟨_, _, _, putFl fds (z, c), rfl, ⟨upd_same, fun x m => ?_⟩, putFl_nd hnd, fun x m => ?_, ?_, fun _ => List.length_pos_of_mem (putFl_has fds (z, c)), fun f m => ?_, ?_, P5.gl (Gl.upd hd5.at_) (B5.upd ndb ndr), (g4.trans g5).upd nd0⟩
            · rcases putFl_mem m with rfl | ⟨m, _⟩
              · exact up (P5.csh c (List.mem_of_getElem? hci)).1
              · exact up (hd5.sh x m)
            · rcases putFl_mem m with rfl | ⟨m, _⟩
              · exact cz
              · exact hcom x m
            · have := putFl_len (fs := fds) (f := (z, c))
              omega
            · exact ((hold f m).gr (Oth.lst ebx4) g5).put hd5.at_ (hat2 f m).2
            · rw [upd_ne ndf.symm]
              exact eF5
          · rintro σ H4 ⟨y12, y13, y14, fds, rfl, hd, hnd, hcom, hl1, hl2, hold, eF4, P4, g4⟩
            refine ⟨_, y12, y13, y14, frs ++ [⟨face, d, fds⟩], rfl, ?_, fun f m => ?_, ?_, P4, g4⟩
            · rw [List.map_append, hnm, List.take_add_one, er]
              rfl
            · rcases List.mem_append.mp m with m | m
              · exact ⟨hold f m, (hat f m).2⟩
              · obtain rfl := List.mem_singleton.mp m
                exact ⟨hd, ndf, nd0, hl2 (Nat.succ_pos _), by show fds.length ≤ 4; omega, hnd, hcom⟩
            · rw [eF4]
              unfold fkvs
              rw [List.map_append, List.map_append]
              rfl
      · rintro σ H1 ⟨y11, y12, y13, y14, frs, rfl, hnm, hat, eF, Pz, gz⟩
        rw [List.length_map, List.take_length] at hnm
        clear eft P12 gC nft
        refine fun kt nkt => ?_
        have nkb := Pz.B.neb nkt
        have nkr := Pz.B.ner nkt
        have nk0 : H kt = none := gz.free nkb nkt
        have nkf : kt ≠ ft := (ne_of_none eF nkt).symm
        have smk : Same H1 (upd H1 kt (.dK [])) := same_new nkt
        have hat1 : ∀ f ∈ frs, FldAt (upd H1 kt (.dK [])) f.da f.fds ∧ f.da ≠ kt := fun f m => ⟨(hat f m).1.same smk, ne_of_none (hat f m).1.at_ nkt⟩
        have hfp : ∀ f ∈ frs, f.da ≠ ft ∧ 1 ≤ f.fds.length ∧ f.fds.length ≤ 4 ∧ (f.fds.map (·.1)).Nodup ∧ ∀ x ∈ f.fds, Com nm cm x := fun f m => (hat f m).2.imp id fun h => h.2
        have P1' := Pz.gl (Gr.new (o := .dK []) nkt).gl (Pz.B.new nkt)
        have g1' := gz.trans (Gr.new (o := .dK []) nkt)
        have eF1 := smk _ _ eF
        have ek1 : (upd H1 kt (.dK [])) kt = some (.dK (kkv [])) := upd_same
        generalize upd H1 kt (.dK []) = H2 at hat1 P1' g1' eF1 ek1
        clear smk hat eF Pz gz nkt
        have fnm : ∀ z ∈ fcs, z ∈ frs.map (·.nm) := fun z m => by rw [hnm]; exact m
        have frnd : (frs.map (·.nm)).Nodup := by rw [hnm]; exact fnd
        refine ⟨.int many, rfl, many, rfl, by omega, by omega, for_range (lo := 0) (n := many) (fun i σ H' => ∃ (y11 y12 y13 y14 y16 y17 : Option V) (krs : List KRow), σ = [some (.ref b), some (.int most), some (.int kinds), some (.int many), some (.ref wl), some (.ref nl), some (.ref fl), some (.ref ul), some (.ref bs), some (.ref cl), some (.ref ft), y11, y12, y13, y14, some (.ref kt), y16, y17, none, none, none, none, none] ∧
          krs.map (·.nm) = ws.take i ∧ (∀ k ∈ krs, k.At H' ∧ k.da ≠ kt ∧ k.fcs.Nodup ∧ (∀ z ∈ k.fcs, z ∈ fcs) ∧ 1 ≤ k.fds.length ∧ k.fds.length ≤ 5 ∧ (k.fds.map (·.1)).Nodup ∧ (∀ f ∈ k.fds, f.1 ∈ nm ∧ okS l 4 false f.2.2) ∧ ∀ f ∈ frs, f.nm ∈ k.fcs → ∀ x ∈ f.fds, x ∈ k.fds) ∧
          (∀ (j : Nat) z, fcs[j]? = some z → j % many < i → ∃ k ∈ krs, z ∈ k.fcs) ∧ (∀ f ∈ frs, FldAt H' f.da f.fds) ∧ H' ft = some (.dK (fkvs frs)) ∧ H' kt = some (.dK (kkv krs)) ∧ Pre H' b r wl nl fl ul bs cl ws nm fcs uns l cm ∧ Gr b H H') ?_ ?_ ?_⟩
        · exact ⟨y11, y12, y13, y14, none, none, [], rfl, rfl, (fun k m => by cases m), (fun j z _ h => absurd h (Nat.not_lt_zero _)), fun f m => (hat1 f m).1, eF1, ek1, P1', g1'⟩
        · rintro i σ H3 hi ⟨y11, y12, y13, y14, y16, y17, krs, rfl, knm, hk, hcov, hfr, eF3, eK3, P3, g3⟩
          have hlen : krs.length = i := by
            have e := congrArg List.length knm
            rw [List.length_map, List.length_take] at e
            omega
          -- having
          refine ⟨.ref fl, rfl, fl, fcs.map V.str, rfl, SqL.of P3.hf, fun ha nha => ?_⟩
          have nhb := P3.B.neb nha
          have nhr := P3.B.ner nha
          refine lc_it (walk_enum (xs := fcs.map V.str)) (fun j H' => ∃ hv : List Str, hv.Nodup ∧ (∀ z ∈ hv, z ∈ fcs.take j) ∧ (∀ (j' : Nat) z, j' < j → fcs[j']? = some z → j' % many = i → z ∈ hv) ∧ Gr b H3 H' ∧ Box H' b r ∧ H' ha = some (.lst (hv.map V.str)))
            ⟨[], List.nodup_nil, (fun z m => by cases m), (fun j' z h => absurd h (Nat.not_lt_zero _)), Gr.new nha, P3.B.new nha, upd_same⟩ (fun j H' _ p => by
              obtain ⟨hv, _, _, _, g, _, _⟩ := p
              exact SqL.of (g _ _ n3b P3.hf)) ?_ ?_
          · rintro j x H4 H5 hj ⟨hv, hvn, hvs, hvc, g4, B4, e4⟩ ⟨tT, x1, x2, rfl, nT, rfl, f1, f2⟩
            cases f1
            have f2 : (fcs.map V.str)[j]? = some x2 := f2
            cases ej : fcs[j]? with
            | none => rw [List.getElem?_map, ej] at f2; cases f2
            | some face =>
              rw [List.getElem?_map, ej] at f2
              cases f2
              have g5 : Gr b H3 (upd H4 tT (.tup [.int (j : Nat), .str face])) := g4.trans (Gr.new nT)
              have B5 := B4.new (o := .tup [.int (j : Nat), .str face]) nT
              have e5 : (upd H4 tT (.tup [.int (j : Nat), .str face])) ha = some (.lst (hv.map V.str)) := by rw [upd_ne (ne_of_none e4 nT)]; exact e4
              refine ⟨tT, _, rfl, .inl (.inl upd_same), rfl, .int (j : Nat), [.str face], rfl, .str face, [], rfl, rfl, rfl, ?_⟩
              generalize upd H4 tT (.tup [.int (j : Nat), .str face]) = H5 at g5 B5 e5
              have fnew : face ∉ fcs.take j := by
                have := name_new (f := fun z : Str => z) (ks := fcs) (by rw [List.map_id']; exact fnd) ej
                rw [List.map_id'] at this
                exact this
              have tk : fcs.take (j + 1) = fcs.take j ++ [face] := by rw [List.take_add_one, ej]; rfl
              have hvl : hv.length ≤ 3 := by
                have := len_le_of_sub hvn fun z m => List.mem_of_mem_take (hvs z m)
                omega
              have yes : ∀ {H6 : Hp}, Gr b H3 H6 → Box H6 b r → H6 ha = some (.lst (hv.map V.str)) → ∃ acc, H6 ha = some (.lst acc) ∧ acc.length < sizeLine ∧ ∃ hv' : List Str, hv'.Nodup ∧ (∀ z ∈ hv', z ∈ fcs.take (j + 1)) ∧ (∀ (j' : Nat) z, j' < j + 1 → fcs[j']? = some z → j' % many = i → z ∈ hv') ∧ Gr b H3 (upd H6 ha (.lst (acc ++ [.str face]))) ∧ Box (upd H6 ha (.lst (acc ++ [.str face]))) b r ∧ (upd H6 ha (.lst (acc ++ [.str face]))) ha = some (.lst (hv'.map V.str)) := fun {H6} g6 B6 e6 => by
                refine ⟨_, e6, ?_, hv ++ [face], ?_, fun z m => ?_, fun j' z h1 h2 h3 => ?_, g6.upd nha, B6.upd nhb nhr, ?_⟩
                · rw [List.length_map]
                  exact Nat.lt_of_le_of_lt (show hv.length ≤ 1000 by omega) (by decide)
                · exact List.nodup_append.mpr ⟨hvn, by simp, fun a ha b hb e => fnew (by rw [show face = a from (e.trans (List.mem_singleton.mp hb)).symm]; exact hvs a ha)⟩
                · rw [tk]
                  rcases List.mem_append.mp m with m | m
                  · exact List.mem_append_left _ (hvs z m)
                  · exact List.mem_append_right _ m
                · by_cases e : j' = j
                  · subst e
                    rw [ej] at h2
                    cases h2
                    exact List.mem_append_right _ (List.mem_singleton.mpr rfl)
                  · exact List.mem_append_left _ (hvc j' z (by omega) h2 h3)
                · rw [upd_same, List.map_append]
                  rfl
              have hmod : ((j : Int)).fmod (many : Int) = ((j % many : Nat) : Int) := by
                rw [Int.fmod_eq_emod_of_nonneg _ (by omega)]
                omega
              refine ⟨.int (j : Nat), rfl, .inl ⟨_, rfl, .int many, rfl, _, _, rfl, rfl, (by show (many : Int) ≠ 0; omega), .int (0 + i), rfl, rfl, _, rfl, ite2 (fun e => ?_) (fun e => ?_)⟩⟩
              · exact iteT ⟨.str face, rfl, yes g5 B5 e5⟩
              · refine ⟨.ref b, rfl, b, r, 2, rfl, B5, by decide, by decide, fun dd H6 _ _ g6 B6 => ⟨rfl, _, rfl, ite2 (fun e2 => ?_) (fun e2 => ?_)⟩⟩
                · exact ⟨.str face, rfl, yes (g5.trans g6) B6 (g6 _ _ nhb e5)⟩
                · refine ⟨hv, hvn, fun z m => by rw [tk]; exact List.mem_append_left _ (hvs z m), fun j' z h1 h2 h3 => ?_, g5.trans g6, B6, g6 _ _ nhb e5⟩
                  by_cases ee : j' = j
                  · subst ee
                    refine absurd (decide_eq_true ?_) e
                    show V.int (((j' : Nat) : Int).fmod (many : Int)) = V.int (0 + (i : Int))
                    rw [hmod, h3, Int.zero_add]
                  · exact hvc j' z (by omega) h2 h3
          · rintro H4 ⟨hv, hvn, hvs, hvc, g4, B4, e4⟩
            rw [List.length_map, List.take_length] at hvs
            obtain ⟨rows, rnm, rsub⟩ := rows_of (frs := frs) (hv := hv) fun z m => fnm z (hvs z m)
            have hvl : hv.length ≤ 3 := by
              have := len_le_of_sub hvn hvs
              omega
            have rlen : rows.length = hv.length := by rw [← rnm, List.length_map]
            obtain ⟨bx3, ebx3⟩ := P3.B.lst
            have P4 := P3.gl g4.gl B4
            have eF4 := g4 _ _ nftb eF3
            -- given
            refine ⟨.ref ha, rfl, ha, rfl, ⟨_, SqL.of e4⟩, fun ga nga => ?_⟩
            have ngb := B4.neb nga
            have ngr := B4.ner nga
            refine lc_list (xs := hv.map V.str) (fun j H' => H' = upd H4 ga (.lst ((rows.take j).map fun k => V.ref k.da))) rfl (fun j H' _ e => by rw [e]; exact SqL.of (by rw [upd_ne (ne_of_none e4 nga)]; exact e4)) ?_ ?_
            · rintro j x H5 ex rfl
              cases ej : hv[j]? with
              | none => rw [List.getElem?_map, ej] at ex; cases ex
              | some z =>
                rw [List.getElem?_map, ej] at ex
                cases ex
                have hj := (List.getElem?_eq_some_iff.mp ej).1
                have ejr : rows[j]? = some (rows[j]'(by omega)) := List.getElem?_eq_getElem _
                generalize rows[j]'(by omega) = row at ejr
                have ezr : row.nm = z := by
                  have e1 : (rows.map (·.nm))[j]? = some row.nm := by rw [List.getElem?_map, ejr]; rfl
                  rw [rnm, ej] at e1
                  exact (Option.some.inj e1).symm
                have rm := rsub row (List.mem_of_getElem? ejr)
                refine ⟨rfl, lcT ⟨.ref ft, rfl, .str z, rfl, ft, .ref row.da, rfl, .inl ⟨fkvs frs, .inr z, .inl (by rw [upd_ne (ne_of_none eF4 nga)]; exact eF4), rfl, by rw [← ezr]; exact (fkvs_val frnd rm).symm⟩, _, upd_same, ?_, ?_⟩⟩
                · rw [List.length_map, List.length_take]
                  exact Nat.lt_of_le_of_lt (show min j rows.length ≤ 1000 by omega) (by decide)
                · rw [upd_upd, List.take_add_one, ejr, List.map_append]
                  rfl
            · rintro H5 rfl
              rw [List.length_map, ← rlen, List.take_length]
              have g5 : Gr b H3 (upd H4 ga (.lst (rows.map fun k => V.ref k.da))) := g4.trans (Gr.new nga)
              have P5 := P4.gl (Gr.new (o := .lst (rows.map fun k => V.ref k.da)) nga).gl (B4.new nga)
              have eg5 : (upd H4 ga (.lst (rows.map fun k => V.ref k.da))) ga = some (.lst (rows.map fun k => V.ref k.da)) := upd_same
              have eh5 : (upd H4 ga (.lst (rows.map fun k => V.ref k.da))) ha = some (.lst (hv.map V.str)) := by rw [upd_ne (ne_of_none e4 nga)]; exact e4
              generalize upd H4 ga (.lst (rows.map fun k => V.ref k.da)) = H5 at g5 P5 eg5 eh5
              -- tuple(having)
              refine ⟨.ref ha, rfl, ha, _, rfl, .inl ⟨SqL.of eh5, fun tp ntp => ?_⟩⟩
              have g6 : Gr b H3 (upd H5 tp (.tup (hv.map V.str))) := g5.trans (Gr.new ntp)
              have P6 := P5.gl (Gr.new (o := .tup (hv.map V.str)) ntp).gl (P5.B.new ntp)
              have eg6 : (upd H5 tp (.tup (hv.map V.str))) ga = some (.lst (rows.map fun k => V.ref k.da)) := by rw [upd_ne (ne_of_none eg5 ntp)]; exact eg5
              have et6 : (upd H5 tp (.tup (hv.map V.str))) tp = some (.tup (hv.map V.str)) := upd_same
              generalize upd H5 tp (.tup (hv.map V.str)) = H6 at g6 P6 eg6 et6
              refine ⟨.ref b, rfl, .ref ga, rfl, .ref nl, rfl, .ref cl, rfl, .ref bs, rfl, .int most, rfl, b, r, ga, nl, cl, bs, rows, nm, cm, l, most, rfl, ?_, hmost, fun t fds H7 nt ht t1 t5 tnd tok tall g7 B7 => ?_⟩
              · exact ⟨P6.B, eg6, P6.hn, P6.hc, P6.hb, ngb, nnb, n6b', n5b, fun k m => (hfr k (rsub k m)).gr (Oth.lst ebx3) g6, by omega, hnl, hnnd, hcl, P6.csh, fun k m f hf => (hfp k (rsub k m)).2.2.2.2 f hf, fun k m => (hfp k (rsub k m)).2.2.2.1, by omega, by omega⟩
              have ntb := P6.B.neb nt
              have ntpb : tp ≠ b := by
                obtain ⟨bx6, ebx6⟩ := P6.B.lst
                exact ne_of et6 ebx6 (by intro z; cases z)
              have g37 : Gr b H3 H7 := g6.trans g7
              have eK7 := g37 _ _ nkb eK3
              have et7 := g7 _ _ ntpb et6
              have ntk : t ≠ kt := (ne_of_none (g6 _ _ nkb eK3) nt).symm
              refine ⟨by show 2 ≤ sizeLine; decide, fun q1 nq => ?_⟩
              have g8 : Gr b H3 (upd H7 q1 (.tup [.ref tp, .ref t])) := g37.trans (Gr.new nq)
              have B8 := B7.new (o := .tup [.ref tp, .ref t]) nq
              have sm8 : Same H7 (upd H7 q1 (.tup [.ref tp, .ref t])) := same_new nq
              have eq8 : (upd H7 q1 (.tup [.ref tp, .ref t])) q1 = some (.tup [.ref tp, .ref t]) := upd_same
              generalize upd H7 q1 (.tup [.ref tp, .ref t]) = H8 at g8 B8 sm8 eq8
              have P8 := P3.gl g8.gl B8
              have eK8 := g8 _ _ nkb eK3
              have hwi : ws[i]? = some (ws[i]'(by omega)) := List.getElem?_eq_getElem _
              generalize ws[i]'(by omega) = wd at hwi
              have aw : atI (ws.map V.str) (0 + (i : Int)) = some (.str wd) := at_of (j := i) (by omega) (by rw [List.getElem?_map, hwi]; rfl)
              refine ⟨.ref kt, rfl, .ref wl, rfl, _, rfl, wl, _, _, .str wd, rfl, rfl, SqL.of P8.hw, aw, kt, _, rfl, DPut.k (k := Sum.inr wd) eK8 ?_, ?_⟩
              · rw [show (kkv krs).length = krs.length from List.length_map ..]
                exact Nat.lt_of_le_of_lt (show krs.length ≤ 1000 by omega) (by decide)
              have wnew : wd ∉ krs.map (·.nm) := by
                rw [knm]
                have := name_new (f := fun z : Str => z) (ks := ws) (by rw [List.map_id']; exact hwnd) hwi
                rw [List.map_id'] at this
                exact this
              rw [show putK (kkv krs) (Sum.inr wd) (.ref q1) = kkv (krs ++ [⟨wd, q1, tp, t, hv, fds⟩]) from put_snoc (f := fun k : KRow => k.nm) (g := fun k => V.ref k.t) (r := ⟨wd, q1, tp, t, hv, fds⟩) wnew]
              have row8 : (KRow.mk wd q1 tp t hv fds).At H8 := ⟨eq8, sm8 _ _ et7, ht.same sm8⟩
              refine ⟨y11, _, y13, y14, some (.ref ha), some (.ref ga), krs ++ [⟨wd, q1, tp, t, hv, fds⟩], rfl, ?_, fun k m => ?_, fun j z hz hj => ?_, fun f m => ?_, ?_, upd_same, P8.gl (Gl.upd eK8) (B8.upd nkb nkr), (g3.trans g8).upd nk0⟩
              · rw [List.map_append, knm, List.take_add_one, hwi]
                rfl
              · rcases List.mem_append.mp m with m | m
                · obtain ⟨h1, h2, h3⟩ := hk k m
                  exact ⟨(h1.gr (Oth.lst ebx3) g8).put eK8 h2, h2, h3⟩
                · obtain rfl := List.mem_singleton.mp m
                  refine ⟨row8.put eK8 ntk, ntk, hvn, hvs, t1, t5, tnd, tok, fun f hf hin x hx => ?_⟩
                  obtain ⟨row, rm, rn⟩ := List.mem_map.mp (show f.nm ∈ rows.map (·.nm) by rw [rnm]; exact hin)
                  have : row = f := by
                    have h1 := fkvs_val frnd (rsub row rm)
                    obtain ⟨i1, hi1, e1⟩ := List.getElem_of_mem (rsub row rm)
                    obtain ⟨i2, hi2, e2⟩ := List.getElem_of_mem hf
                    have hh : (frs.map (·.nm))[i1]'(by rw [List.length_map]; exact hi1) = (frs.map (·.nm))[i2]'(by rw [List.length_map]; exact hi2) := by
                      rw [List.getElem_map, List.getElem_map, e1, e2, rn]
                    have := (List.getElem_inj frnd).mp hh
                    subst this
                    rw [← e1, ← e2]
                  exact tall f (this ▸ rm) x hx
              · by_cases e : j % many = i
                · exact ⟨_, List.mem_append_right _ (List.mem_singleton.mpr rfl), hvc j z (by have := (List.getElem?_eq_some_iff.mp hz).1; rw [List.length_map]; exact this) hz e⟩
                · obtain ⟨k, hk1, hk2⟩ := hcov j z hz (by omega)
                  exact ⟨k, List.mem_append_left _ hk1, hk2⟩
              · exact ((hfr f m).gr (Oth.lst ebx3) g8).put eK8 (hat1 f m).2
              · rw [upd_ne nkf.symm]
                exact g8 _ _ nftb eF3
        · rintro σ H3 ⟨y11, y12, y13, y14, y16, y17, krs, rfl, knm, hk, hcov, hfr, eF3, eK3, P3, g3⟩
          clear ek1 P1' g1' eF1
          refine fun ut nut => ?_
          have nub := P3.B.neb nut
          have nur := P3.B.ner nut
          have nu0 : H ut = none := g3.free nub nut
          have nuk : ut ≠ kt := (ne_of_none eK3 nut).symm
          have nuf : ut ≠ ft := (ne_of_none eF3 nut).symm
          have smu : Same H3 (upd H3 ut (.dK [])) := same_new nut
          have kat : ∀ k ∈ krs, k.At (upd H3 ut (.dK [])) ∧ k.da ≠ ut := fun k m => ⟨(hk k m).1.same smu, ne_of_none (hk k m).1.d.at_ nut⟩
          have fat : ∀ f ∈ frs, FldAt (upd H3 ut (.dK [])) f.da f.fds ∧ f.da ≠ ut := fun f m => ⟨(hfr f m).same smu, ne_of_none (hfr f m).at_ nut⟩
          have kpr : ∀ k ∈ krs, k.fcs.Nodup ∧ (∀ z ∈ k.fcs, z ∈ fcs) ∧ 1 ≤ k.fds.length ∧ k.fds.length ≤ 5 ∧ (k.fds.map (·.1)).Nodup ∧ (∀ f ∈ k.fds, f.1 ∈ nm ∧ okS l 4 false f.2.2) ∧ ∀ f ∈ frs, f.nm ∈ k.fcs → ∀ x ∈ f.fds, x ∈ k.fds := fun k m => (hk k m).2.2
          have P4 := P3.gl (Gr.new (o := .dK []) nut).gl (P3.B.new nut)
          have g4' := g3.trans (Gr.new (o := .dK []) nut)
          have eF4 := smu _ _ eF3
          have eK4 := smu _ _ eK3
          have eU4 : (upd H3 ut (.dK [])) ut = some (.dK (ukv [])) := upd_same
          generalize upd H3 ut (.dK []) = H4 at kat fat P4 g4' eF4 eK4 eU4
          clear smu hk hfr P3 g3 eF3 eK3 nut hat1
          refine ⟨.ref ul, rfl, ul, rfl, ⟨_, SqL.of P4.hu⟩, ?_⟩
          refine for_list (xs := uns.map V.str) (fun i σ H' => ∃ (y19 y20 : Option V) (urs : List URow), σ = [some (.ref b), some (.int most), some (.int kinds), some (.int many), some (.ref wl), some (.ref nl), some (.ref fl), some (.ref ul), some (.ref bs), some (.ref cl), some (.ref ft), y11, y12, y13, y14, some (.ref kt), y16, y17, some (.ref ut), y19, y20, none, none] ∧
            urs.map (·.nm) = uns.take i ∧ (∀ u ∈ urs, H' u.t = some (.tup (u.ms.map V.str)) ∧ u.ms.Nodup ∧ 1 ≤ u.ms.length ∧ u.ms.length ≤ 4 ∧ ∀ z ∈ u.ms, z ∈ ws.take many) ∧ (∀ k ∈ krs, k.At H') ∧ (∀ f ∈ frs, FldAt H' f.da f.fds) ∧ H' ft = some (.dK (fkvs frs)) ∧ H' kt = some (.dK (kkv krs)) ∧ H' ut = some (.dK (ukv urs)) ∧ Pre H' b r wl nl fl ul bs cl ws nm fcs uns l cm ∧ Gr b H H')
            ⟨none, none, [], rfl, rfl, (fun u m => by cases m), fun k m => (kat k m).1, fun f m => (fat f m).1, eF4, eK4, eU4, P4, g4'⟩ ?_ ?_ ?_
          · rintro i σ H' _ ⟨_, _, urs, _, _, _, _, _, _, _, _, Pz, _⟩
            exact SqL.of Pz.hu
          · rintro i x σ H5 ex ⟨y19, y20, urs, rfl, unm, hu5, hk5, hf5, eF5, eK5, eU5, P5, g5⟩
            rw [List.getElem?_map] at ex
            cases er : uns[i]? with
            | none => rw [er] at ex; cases ex
            | some un =>
              rw [er] at ex
              cases ex
              have hi := (List.getElem?_eq_some_iff.mp er).1
              have hlen : urs.length = i := by
                have e := congrArg List.length unm
                rw [List.length_map, List.length_take] at e
                omega
              -- own
              refine ⟨.ref wl, rfl, .int many, rfl, many, rfl, wl, ws.map V.str, rfl, SqL.of P5.hw, fun sl nsl => ⟨sl, rfl, ⟨_, SqL.of upd_same⟩, fun ow now => ?_⟩⟩
              rw [cut_to (by omega), ← List.map_take] at now ⊢
              have B6 := P5.B.new (o := .lst ((ws.take many).map V.str)) nsl
              have g6 : Gr b H5 (upd H5 sl (.lst ((ws.take many).map V.str))) := Gr.new nsl
              have es6 : (upd H5 sl (.lst ((ws.take many).map V.str))) sl = some (.lst ((ws.take many).map V.str)) := upd_same
              have nslb := P5.B.neb nsl
              generalize upd H5 sl (.lst ((ws.take many).map V.str)) = H6 at B6 g6 es6 now
              have nob := B6.neb now
              have nor := B6.ner now
              refine lc_list (xs := (ws.take many).map V.str) (fun j H' => ∃ os : List Str, os.Nodup ∧ (∀ z ∈ os, z ∈ (ws.take many).take j) ∧ Gr b H6 H' ∧ Box H' b r ∧ H' ow = some (.lst (os.map V.str))) ⟨[], List.nodup_nil, (fun z m => by cases m), Gr.new now, B6.new now, upd_same⟩
                (fun j H' _ p => by
                  obtain ⟨os, _, _, g, _, _⟩ := p
                  exact SqL.of (g _ _ nslb es6)) ?_ ?_
              · rintro j x H7 ex ⟨os, osn, oss, g7, B7, e7⟩
                cases ej : (ws.take many)[j]? with
                | none => rw [List.getElem?_map, ej] at ex; cases ex
                | some wd =>
                  rw [List.getElem?_map, ej] at ex
                  cases ex
                  have tk : (ws.take many).take (j + 1) = (ws.take many).take j ++ [wd] := by rw [List.take_add_one, ej]; rfl
                  have tnd : (ws.take many).Nodup := hwnd.sublist (List.take_sublist _ _)
                  have wnew : wd ∉ (ws.take many).take j := by
                    have := name_new (f := fun z : Str => z) (ks := ws.take many) (by rw [List.map_id']; exact tnd) ej
                    rw [List.map_id'] at this
                    exact this
                  have osl : os.length ≤ many := by
                    have := len_le_of_sub osn fun z m => List.mem_of_mem_take (oss z m)
                    omega
                  refine ⟨rfl, .ref b, rfl, b, r, 2, rfl, B7, by decide, by decide, fun dd H8 _ _ g8 B8 => ⟨rfl, _, rfl, ite2 (fun e => ?_) (fun e => ?_)⟩⟩
                  · refine ⟨.str wd, rfl, _, g8 _ _ nob e7, ?_, os ++ [wd], ?_, fun z m => ?_, (g7.trans g8).upd now, B8.upd nob nor, ?_⟩
                    · rw [List.length_map]
                      exact Nat.lt_of_le_of_lt (show os.length ≤ 1000 by omega) (by decide)
                    · exact List.nodup_append.mpr ⟨osn, by simp, fun a ha b hb e => wnew (by rw [show wd = a from (e.trans (List.mem_singleton.mp hb)).symm]; exact oss a ha)⟩
                    · rw [tk]
                      rcases List.mem_append.mp m with m | m
                      · exact List.mem_append_left _ (oss z m)
                      · exact List.mem_append_right _ m
                    · rw [upd_same, List.map_append]
                      rfl
                  · exact ⟨os, osn, fun z m => by rw [tk]; exact List.mem_append_left _ (oss z m), g7.trans g8, B8, g8 _ _ nob e7⟩
              · rintro H7 ⟨os, osn, oss, g7, B7, e7⟩
                rw [List.length_map, List.take_length] at oss
                have osl : os.length ≤ many := by
                  have := len_le_of_sub osn oss
                  omega
                have osN : ∀ z ∈ os, IsName z := fun z m => (hwok z (List.mem_of_mem_take (oss z m))).1
                -- own[:4]
                refine ⟨.ref ow, rfl, 4, rfl, ow, _, rfl, SqL.of e7, fun o4 no4 => ?_⟩
                rw [show (4 : Int) = ((4 : Nat) : Int) from rfl, cut_to', ← List.map_take]
                have s8 : Same H7 (upd H7 o4 (.lst ((os.take 4).map V.str))) := same_new no4
                have e84 : (upd H7 o4 (.lst ((os.take 4).map V.str))) o4 = some (.lst ((os.take 4).map V.str)) := upd_same
                have B8 := B7.new (o := .lst ((os.take 4).map V.str)) no4
                have no4b := B7.neb no4
                generalize upd H7 o4 (.lst ((os.take 4).map V.str)) = H8 at s8 e84 B8
                -- own == []
                refine ⟨.ref ow, rfl, Nat.zero_le _, fun e0 ne0 => ?_⟩
                have s9 : Same H8 (upd H8 e0 (.lst [])) := same_new ne0
                have e90 : (upd H8 e0 (.lst [])) e0 = some (.lst []) := upd_same
                have B9 := B8.new (o := .lst []) ne0
                generalize upd H8 e0 (.lst []) = H9 at s9 e90 B9
                have e97 := s9 _ _ (s8 _ _ e7)
                have e94 := s9 _ _ e84
                refine ⟨.list (os.map PyData.str), .list [], .lst (SqL.of e97) (dp_strs os), .lst (SqL.of e90) .nil, shaped_strs osN, shaped_strs (l := []) (fun z m => by cases m), .inr ⟨_, rfl, ?_⟩⟩
                rw [eqv_nil]
                have g69 : Gr b H6 H9 := g7.trans ((gr_x s8).trans (gr_x s9))
                have P9 := P5.gl (g6.trans g69).gl B9
                -- what is taken in the end
                have fin : ∀ (H12 : Hp) (p2 : Addr) (ms : List Str) (y20' : Option V), Gr b H5 H12 → Box H12 b r → H12 p2 = some (.lst (ms.map V.str)) → ms.Nodup → 1 ≤ ms.length → ms.length ≤ 4 → (∀ z ∈ ms, z ∈ ws.take many) → p2 ≠ b → ∀ (Z : L2.St → Hp → Prop), True := fun _ _ _ _ _ _ _ _ _ _ _ _ _ => trivial
                have hd4 : (os.take 4).Nodup := osn.sublist (List.take_sublist _ _)
                have hs4 : ∀ z ∈ os.take 4, z ∈ ws.take many := fun z m => oss z (List.mem_of_mem_take m)
                have hl4 : (os.take 4).length ≤ 4 := List.length_take_le _ _
                -- the items that are added: none, or one if there are none
                refine ⟨_, rfl, (by split <;> decide), (by split <;> decide), fun ad nad => ?_⟩
                have nadb := B9.neb nad
                have nadr := B9.ner nad
                refine lc_range (lo := 0) (n := (if (os.length == 0) = true then (1 : Int) else 0).toNat) (fun j H' => ∃ ax : List Str, ax.length = j ∧ (∀ z ∈ ax, z ∈ ws.take many) ∧ Gr b H9 H' ∧ Box H' b r ∧ H' ad = some (.lst (ax.map V.str))) ⟨[], rfl, (fun z m => by cases m), Gr.new nad, B9.new nad, upd_same⟩ ?_ ?_
                · rintro j H10 hj ⟨ax, axl, axs, g10, B10, e10⟩
                  have hj1 : j < 1 := by
                    have : (if (os.length == 0) = true then (1 : Int) else 0).toNat ≤ 1 := by split <;> decide
                    omega
                  refine ⟨rfl, lcT ⟨.ref wl, rfl, .ref b, rfl, .int many, rfl, b, r, many, rfl, B10, by omega, by omega, fun dd H11 dd0 dd1 g11 B11 => ?_⟩⟩
                  obtain ⟨dd, rfl⟩ := Int.eq_ofNat_of_zero_le dd0
                  have hdd : dd < many := by omega
                  have hwd : ws[dd]? = some (ws[dd]'(by omega)) := List.getElem?_eq_getElem _
                  generalize ws[dd]'(by omega) = wd at hwd
                  have wm : wd ∈ ws.take many := List.mem_of_getElem? (i := dd) (by rw [List.getElem?_take_of_lt hdd]; exact hwd)
                  have P11 := P9.gl (g10.trans g11).gl B11
                  refine ⟨wl, _, dd, .str wd, rfl, rfl, SqL.of P11.hw, atI_nat (by rw [List.getElem?_map, hwd]; rfl), _, g11 _ _ nadb e10, ?_, ax ++ [wd], ?_, fun z m => ?_, (g10.trans g11).upd nad, B11.upd nadb nadr, ?_⟩
                  · rw [List.length_map]
                    exact Nat.lt_of_le_of_lt (show ax.length ≤ 1000 by omega) (by decide)
                  · rw [List.length_append, axl]; rfl
                  · rcases List.mem_append.mp m with m | m
                    · exact axs z m
                    · rw [List.mem_singleton.mp m]; exact wm
                  · rw [upd_same, List.map_append]
                    rfl
                · rintro H10 ⟨ax, axl, axs, g10, B10, e10⟩
                  have e104 := g10 _ _ no4b e94
                  have al : ax.length ≤ 1 := by
                    rw [axl]
                    split <;> decide
                  refine ⟨o4, ad, _, _, rfl, rfl, e104, e10, hS _ (by rw [List.length_map, List.length_map]; omega), fun p2 np2 => ?_⟩
                  have e11 : (upd H10 p2 (.lst ((os.take 4).map V.str ++ ax.map V.str))) p2 = some (.lst ((os.take 4 ++ ax).map V.str)) := by rw [upd_same, List.map_append]
                  have g59 : Gr b H5 H10 := (g6.trans g69).trans g10
                  have g511 : Gr b H5 (upd H10 p2 (.lst ((os.take 4).map V.str ++ ax.map V.str))) := g59.trans (Gr.new np2)
                  have B11 := B10.new (o := .lst ((os.take 4).map V.str ++ ax.map V.str)) np2
                  generalize upd H10 p2 (.lst ((os.take 4).map V.str ++ ax.map V.str)) = H11 at e11 g511 B11
                  have mprop : (os.take 4 ++ ax).Nodup ∧ 1 ≤ (os.take 4 ++ ax).length ∧ (os.take 4 ++ ax).length ≤ 4 ∧ ∀ z ∈ os.take 4 ++ ax, z ∈ ws.take many := by
                    cases os with
                    | nil =>
                      have a1 : ax.length = 1 := axl
                      obtain ⟨x, rfl⟩ := List.length_eq_one_iff.mp a1
                      exact ⟨by simp, by simp, by simp, fun z m => axs z (by simpa using m)⟩
                    | cons o os' =>
                      have a0 : ax.length = 0 := axl
                      obtain rfl := List.length_eq_zero_iff.mp a0
                      rw [List.append_nil]
                      exact ⟨hd4, by rw [List.length_take, List.length_cons]; omega, hl4, hs4⟩
                  generalize os.take 4 ++ ax = ms at e11 mprop
                  obtain ⟨m1, m2, m3, m4⟩ := mprop
                  -- union_table[union] = tuple(own[::-1])
                  refine ⟨.ref p2, rfl, p2, _, rfl, SqL.of e11, fun p3 np3 => ⟨p3, _, rfl, .inl ⟨SqL.of upd_same, fun p4 np4 => ?_⟩⟩⟩
                  rw [← List.map_reverse] at np4 ⊢
                  have g512 : Gr b H5 (upd (upd H11 p3 (.lst (ms.reverse.map V.str))) p4 (.tup (ms.reverse.map V.str))) := g511.trans ((Gr.new np3).trans (Gr.new np4))
                  have B12 := (B11.new (o := .lst (ms.reverse.map V.str)) np3).new (o := .tup (ms.reverse.map V.str)) np4
                  have e12 : (upd (upd H11 p3 (.lst (ms.reverse.map V.str))) p4 (.tup (ms.reverse.map V.str))) p4 = some (.tup (ms.reverse.map V.str)) := upd_same
                  generalize upd (upd H11 p3 (.lst (ms.reverse.map V.str))) p4 (.tup (ms.reverse.map V.str)) = H12 at g512 B12 e12
                  have eU12 := g512 _ _ nub eU5
                  obtain ⟨bx5, ebx5⟩ := P5.B.lst
                  refine ⟨.ref ut, rfl, .str un, rfl, ut, _, rfl, DPut.k (k := Sum.inr un) eU12 ?_, ?_⟩
                  · rw [show (ukv urs).length = urs.length from List.length_map ..]
                    exact Nat.lt_of_le_of_lt (show urs.length ≤ 1000 by omega) (by decide)
                  have unew : un ∉ urs.map (·.nm) := by
                    rw [unm]
                    have := name_new (f := fun z : Str => z) (ks := uns) (by rw [List.map_id']; exact und) er
                    rw [List.map_id'] at this
                    exact this
                  rw [show putK (ukv urs) (Sum.inr un) (.ref p4) = ukv (urs ++ [⟨un, p4, ms.reverse⟩]) from put_snoc (f := fun k : URow => k.nm) (g := fun k => V.ref k.t) (r := ⟨un, p4, ms.reverse⟩) unew]
                  have P12 := P5.gl g512.gl B12
                  have tup12 : ∀ {a : Addr} {xs : List V}, H12 a = some (.tup xs) → (upd H12 ut (.dK (ukv (urs ++ [⟨un, p4, ms.reverse⟩])))) a = some (.tup xs) := fun e => by
                    rw [upd_ne (ne_of e eU12 (by intro z; cases z))]
                    exact e
                  refine ⟨_, _, urs ++ [⟨un, p4, ms.reverse⟩], rfl, ?_, fun u m => ?_, fun k m => ((hk5 k m).gr (Oth.lst ebx5) g512).put eU12 (kat k m).2, fun f m => ((hf5 f m).gr (Oth.lst ebx5) g512).put eU12 (fat f m).2, ?_, ?_, upd_same, P12.gl (Gl.upd eU12) (B12.upd nub nur), (g5.trans g512).upd nu0⟩
                  · rw [List.map_append, unm, List.take_add_one, er]
                    rfl
                  · rcases List.mem_append.mp m with m | m
                    · exact ⟨tup12 (g512 _ _ ((Oth.lst ebx5).net (hu5 u m).1) (hu5 u m).1), (hu5 u m).2⟩
                    · obtain rfl := List.mem_singleton.mp m
                      exact ⟨tup12 e12, (List.reverse_perm ms).nodup_iff.mpr m1, by show 1 ≤ ms.reverse.length; rw [List.length_reverse]; exact m2, by show ms.reverse.length ≤ 4; rw [List.length_reverse]; exact m3, fun z mz => m4 z (List.mem_reverse.mp mz)⟩
                  · rw [upd_ne nuf.symm]
                    exact g512 _ _ nftb eF5
                  · rw [upd_ne nuk.symm]
                    exact g512 _ _ nkb eK5
          · rintro σ H5 ⟨y19, y20, urs, rfl, unm, hu5, hk5, hf5, eF5, eK5, eU5, P5, g5⟩
            rw [List.length_map, List.take_length] at unm
            -- return
            refine ⟨.ref kt, rfl, .ref ft, rfl, .ref ut, rfl, .ref wl, rfl, .ref b, rfl, .int many, rfl, b, r, many, rfl, P5.B, by omega, by omega, fun dd H6 dd0 dd1 g6 B6 => ?_⟩
            obtain ⟨dd, rfl⟩ := Int.eq_ofNat_of_zero_le dd0
            have hdd : dd < many := by omega
            have hwd : ws[dd]? = some (ws[dd]'(by omega)) := List.getElem?_eq_getElem _
            generalize ws[dd]'(by omega) = root at hwd
            have wm : root ∈ ws.take many := List.mem_of_getElem? (i := dd) (by rw [List.getElem?_take_of_lt hdd]; exact hwd)
            have P6 := P5.gl g6.gl B6
            obtain ⟨bx5, ebx5⟩ := P5.B.lst
            refine ⟨wl, _, dd, .str root, rfl, rfl, SqL.of P6.hw, atI_nat (by rw [List.getElem?_map, hwd]; rfl), by show 4 ≤ sizeLine; decide, fun q1 nq1 => ?_⟩
            have sm : Same H6 (upd H6 q1 (.tup [.ref kt, .ref ft, .ref ut, .str root])) := same_new nq1
            have S6 : SchAt H6 kt ft ut krs frs urs := ⟨g6 _ _ nkb eK5, g6 _ _ nftb eF5, g6 _ _ nub eU5, fun k m => (hk5 k m).gr (Oth.lst ebx5) g6, fun f m => (hf5 f m).gr (Oth.lst ebx5) g6, fun u m => g6 _ _ ((Oth.lst ebx5).net (hu5 u m).1) (hu5 u m).1⟩
            have ebs : bsOf krs frs urs = l := by
              unfold bsOf
              rw [knm, hnm, unm, ← hl]
            have tx : ∀ z ∈ l, PyData.strOk z = true := fun z m => by
              rw [← hl] at m
              rcases List.mem_append.mp m with m | m
              · rcases List.mem_cons.mp m with rfl | m
                · decide +kernel
                · rw [List.mem_singleton.mp m]
                  decide +kernel
              · rcases List.mem_append.mp m with m | m
                · exact (hwok z (List.mem_of_mem_take m)).1.tx
                · rcases List.mem_append.mp m with m | m
                  · exact (hwok z (fsub z m)).1.tx
                  · exact (hwok z (usub z m)).1.tx
            refine q q1 kt ft ut krs frs urs root _ upd_same (S6.same sm) ⟨?_, ?_, ?_, ?_, ?_, ?_, ?_, ?_, ?_, ?_, ?_, ?_, ?_, ?_, ?_⟩ ((g5.trans g6).trans (Gr.new nq1)) (B6.new nq1)
            · have e := congrArg List.length knm
              rw [List.length_map, lt] at e
              omega
            · have e := congrArg List.length knm
              rw [List.length_map, lt] at e
              omega
            · have e := congrArg List.length hnm
              rw [List.length_map, lf] at e
              omega
            · have e := congrArg List.length unm
              rw [List.length_map, lu] at e
              omega
            · rw [ebs, ← hl]
              refine List.nodup_append.mpr ⟨by decide +kernel, ?_, fun a ha c hc e => ?_⟩
              · rw [← hfcs, ← huns]
                exact hwnd.sublist (parts_sub ws many nf nu hnf)
              · subst e
                have am : a ∈ ws := by
                  rcases List.mem_append.mp hc with m | m
                  · exact List.mem_of_mem_take m
                  · rcases List.mem_append.mp m with m | m
                    · exact fsub a m
                    · exact usub a m
                rcases List.mem_cons.mp ha with rfl | ha
                · exact (hwok _ am).2.2 rfl
                · rw [List.mem_singleton.mp ha] at am
                  exact (hwok _ am).2.1 rfl
            · intro k m
              have : k.nm ∈ ws.take many := by rw [← knm]; exact List.mem_map.mpr ⟨k, m, rfl⟩
              exact (hwok _ (List.mem_of_mem_take this)).1
            · intro k m
              exact (hwok _ (fsub _ (by rw [← hnm]; exact List.mem_map.mpr ⟨k, m, rfl⟩))).1
            · intro k m
              exact (hwok _ (usub _ (by rw [← unm]; exact List.mem_map.mpr ⟨k, m, rfl⟩))).1
            · intro k m
              obtain ⟨h1, h2, _⟩ := kpr k m
              refine ⟨h1, fun z mz => fnm z (h2 z mz), ?_⟩
              have := len_le_of_sub h1 h2
              omega
            · intro k m
              obtain ⟨_, _, h1, h2, h3, h4, _⟩ := kpr k m
              rw [ebs]
              exact ⟨h1, h2, h3, fun f mf => hnok f.1 (h4 f mf).1 |>.1, fun f mf => (h4 f mf).2, tx⟩
            · intro f m
              obtain ⟨_, h1, h2, h3, h4⟩ := hfp f m
              rw [ebs]
              refine ⟨h1, h2, h3, fun x mx => ?_, fun x mx => ?_, tx⟩
              · obtain ⟨j, hj, _⟩ := h4 x mx
                exact (hnok _ (List.mem_of_getElem? hj)).1
              · obtain ⟨j, _, hj⟩ := h4 x mx
                exact (P5.csh _ (List.mem_of_getElem? hj)).2
            · intro f m
              obtain ⟨j, hj, ej⟩ := List.getElem_of_mem (show f.nm ∈ fcs by rw [← hnm]; exact List.mem_map.mpr ⟨f, m, rfl⟩)
              exact hcov j f.nm (by rw [← ej]; exact List.getElem?_eq_getElem hj) (Nat.mod_lt _ (by omega))
            · intro f mf k mk hin x mx
              obtain ⟨_, _, _, _, _, _, h7⟩ := kpr k mk
              exact ⟨x, h7 f mf hin x mx, rfl, rfl⟩
            · intro u m
              obtain ⟨_, h1, h2, h3, h4⟩ := hu5 u m
              exact ⟨h1, h2, h3, fun z mz => by rw [knm]; exact h4 z mz⟩
            · rw [knm]
              exact wm
end
end NW
namespace NW
open PySem PySem.Spec PyProof.Rows L2
open TL (tl)
open StX (pa_star)
abbrev s_Schema_bases : Stmt := inClass (topS 35) 3
abbrev N_Schema_bases : List Str := ["self"]
theorem sc_Schema_bases : FnScope N_Schema_bases ["self"] (defScope s_Schema_bases) := ⟨rfl, rfl, rfl, by decide +kernel, rfl, by decide +kernel, by decide +kernel⟩
abbrev s_Schema_contains : Stmt := inClass (topS 35) 2
abbrev N_Schema_contains : List Str := ["self", "base"]
theorem sc_Schema_contains : FnScope N_Schema_contains ["self", "base"] (defScope s_Schema_contains) := ⟨rfl, rfl, rfl, by decide +kernel, rfl, by decide +kernel, by decide +kernel⟩
abbrev s_Schema_kinds : Stmt := inClass (topS 35) 4
abbrev N_Schema_kinds : List Str := ["self"]
theorem sc_Schema_kinds : FnScope N_Schema_kinds ["self"] (defScope s_Schema_kinds) := ⟨rfl, rfl, rfl, by decide +kernel, rfl, by decide +kernel, by decide +kernel⟩
abbrev s_Schema_faces : Stmt := inClass (topS 35) 5
abbrev N_Schema_faces : List Str := ["self"]
theorem sc_Schema_faces : FnScope N_Schema_faces ["self"] (defScope s_Schema_faces) := ⟨rfl, rfl, rfl, by decide +kernel, rfl, by decide +kernel, by decide +kernel⟩
abbrev s_Schema_unions : Stmt := inClass (topS 35) 6
abbrev N_Schema_unions : List Str := ["self"]
theorem sc_Schema_unions : FnScope N_Schema_unions ["self"] (defScope s_Schema_unions) := ⟨rfl, rfl, rfl, by decide +kernel, rfl, by decide +kernel, by decide +kernel⟩
theorem map_eq_of_rel {α : Type} {f : α → Str} {ks rs : List α} (hl : rs.length = ks.length) (h : ∀ (j : Nat) (a b : α), ks[j]? = some a → rs[j]? = some b → f b = f a) : rs.map f = ks.map f := by
  have := rel_names (i := ks.length) hl (Nat.le_refl _) h
  rw [List.take_length] at this
  exact this
theorem BuiltAt.names {C : Addr} {H : Hp} {x : Addr} {ks : List KRow} {fs : List FRow} {us : List URow} {root : Str} (_ : BuiltAt C H x ks fs us root) : ∀ ks' fs' us', RelK ks ks' → RelF fs fs' → RelU us us' →
    (ks'.map (·.nm) = ks.map (·.nm) ∧ fs'.map (·.nm) = fs.map (·.nm) ∧ us'.map (·.nm) = us.map (·.nm)) := fun ks' fs' us' rk rf ru =>
  ⟨map_eq_of_rel (f := fun k : KRow => k.nm) rk.1 fun j a b ea eb => (rk.2 j a b ea eb).1, map_eq_of_rel (f := fun k : FRow => k.nm) rf.1 fun j a b ea eb => (rf.2 j a b ea eb).1, map_eq_of_rel (f := fun k : URow => k.nm) ru.1 fun j a b ea eb => (ru.2 j a b ea eb).1⟩
theorem BuiltAt.gr {C b : Addr} {H H' : Hp} {x : Addr} {ks : List KRow} {fs : List FRow} {us : List URow} {root : Str} (hb : Oth H b) (g : Gr b H H') (n : x ≠ b) (h : BuiltAt C H x ks fs us root) : BuiltAt C H' x ks fs us root := by
  obtain ⟨dx, kt, ft, ut, ks', fs', us', hx, S, rk, rf, ru⟩ := h
  exact ⟨dx, kt, ft, ut, ks', fs', us', g _ _ n hx, S.gr hb g, rk, rf, ru⟩
theorem BuiltAt.same {C : Addr} {H H' : Hp} {x : Addr} {ks : List KRow} {fs : List FRow} {us : List URow} {root : Str} (g : Same H H') (h : BuiltAt C H x ks fs us root) : BuiltAt C H' x ks fs us root := by
  obtain ⟨dx, kt, ft, ut, ks', fs', us', hx, S, rk, rf, ru⟩ := h
  exact ⟨dx, kt, ft, ut, ks', fs', us', g _ _ hx, S.same g, rk, rf, ru⟩
section
variable {P : Program} {w : World} {K : PySem.W.Frag} {mg : Str → Option Value} {base : Heap}

/-- a method of the class at C -/
structure Mt (K : PySem.W.Frag) (C : Addr) (x q : Str) (st : Stmt) (f : Addr) (fd : FuncData) (ps : List Str) : Prop where
  F : Fun K x q st f fd
  b : Binds K fd ps []
  m : Meth K C x f
theorem TyX.same {H H' : Hp} {x : V} {t : Value} (s : Same H H') (h : TyX K H x t) : TyX K H' x t := by
  cases h with
  | base h =>
    cases h with
    | non => exact .base .non
    | bl b => exact .base (.bl b)
    | int i => exact .base (.int i)
    | str z => exact .base (.str z)
    | flt z => exact .base (.flt z)
    | lst e => exact .base (.lst (s _ _ e))
    | frz e => exact .base (.frz (s _ _ e))
    | tup e => exact .base (.tup (s _ _ e))
    | dK e => exact .base (.dK (s _ _ e))
    | dT e => exact .base (.dT (s _ _ e))
    | ins e cl ha hn htk hm => exact .base (.ins (s _ _ e) cl ha hn htk hm)
  | byt b => exact .byt b
  | set e => exact .set (s _ _ e)
  | kList e c => exact .kList e c
  | kTuple e c => exact .kTuple e c
  | kDict e c => exact .kDict e c
  | fTuple e => exact .fTuple (s _ _ e)
  | fDict e => exact .fDict (s _ _ e)
def spBases (C : Addr) : Sp := fun vs H Q _ => ∃ (x : Addr) (ks : List KRow) (fs : List FRow) (us : List URow) (root : Str), vs = [.ref x] ∧ BuiltAt C H x ks fs us root ∧ ks.length ≤ 6 ∧ fs.length ≤ 3 ∧ us.length ≤ 3 ∧
  ∀ p H', Same H H' → H p = none → H' p = some (.lst ((bsOf ks fs us).map V.str)) → Q (.ref p) H'
theorem ok_bases {f C : Addr} {fd : FuncData} (F : Fun K "bases" "Schema.bases" s_Schema_bases f fd) (L : ClT K C) (Cs : Cst K mg) : FnOk P w K mg base CX0 1 f fd ["self"] (spBases C) := by
  obtain ⟨la, g_L, hL⟩ := Cs.LEAVES
  refine F.ok sc_Schema_bases (fun vs H Q E h => ?_) (fun cdv A outer s H vs Q E hr h => ?_)
  · obtain ⟨x, ks, fs, us, root, rfl, _⟩ := h
    rfl
  · obtain ⟨x, ks, fs, us, root, rfl, Bt, k6, f3, u3, q⟩ := h
    have hnm := Bt.names
    obtain ⟨dx, kt, ft, ut, ks', fs', us', hx, S, rk, rf, ru⟩ := Bt
    obtain ⟨e1, e2, e3⟩ := hnm ks' fs' us' rk rf ru
    refine ⟨_, (pss_one (ps_ret (pe_lst (pa_star (pe_glob (v := .ref la) (by rfl) g_L rfl) (pa_starD rfl (pe_fld (pv 0) rfl) (pa_starD rfl (pe_fld (pv 0) rfl) (pa_starD rfl (pe_fld (pv 0) rfl) pa_nil))))))), ?_⟩
    refine ⟨la, _, rfl, .inl (hL H), .ref x, rfl, x, C, dx, _, _, rfl, hx, L.cl, L.nk, lkk .., kt, kkv ks', rfl, .inl S.kd, .ref x, rfl, x, C, dx, _, _, rfl, hx, L.cl, L.nf, lkf .., ft, fkvs fs', rfl, .inl S.fd, .ref x, rfl, x, C, dx, _, _, rfl, hx, L.cl, L.nu, lku .., ut, ukv us', rfl, .inl S.ud, ?_, fun p np => ?_⟩
    · show ([V.str "number", V.str "text"] ++ (dkeys (kkv ks') ++ (dkeys (fkvs fs') ++ (dkeys (ukv us') ++ [])))).length ≤ sizeLine
      have l1 := rk.1
      have l2 := rf.1
      have l3 := ru.1
      rw [List.length_append, List.length_append, List.length_append, List.length_append, dkeys_len, dkeys_len, dkeys_len, show (kkv ks').length = ks'.length from List.length_map .., show (fkvs fs').length = fs'.length from List.length_map .., show (ukv us').length = us'.length from List.length_map ..]
      exact Nat.le_trans (show 2 + (ks'.length + (fs'.length + (us'.length + 0))) ≤ 1000 by omega) (by decide)
    · have el : ([V.str "number", V.str "text"] ++ (dkeys (kkv ks') ++ (dkeys (fkvs fs') ++ (dkeys (ukv us') ++ [])))) = (bsOf ks fs us).map V.str := by
        rw [dkeys_k, dkeys_f, dkeys_u]
        unfold bsOf
        rw [List.append_nil, List.map_append, List.map_append, List.map_append, e1, e2, e3]
        rfl
      refine q p _ (same_new np) np ?_
      show (upd H p (.lst ([V.str "number", V.str "text"] ++ (dkeys (kkv ks') ++ (dkeys (fkvs fs') ++ (dkeys (ukv us') ++ [])))))) p = _
      rw [el]
      exact upd_same
def spContains (K : PySem.W.Frag) (C : Addr) : Sp := fun vs H Q _ => ∃ (x : Addr) (y : V) (ks : List KRow) (fs : List FRow) (us : List URow) (root : Str), vs = [.ref x, y] ∧ BuiltAt C H x ks fs us root ∧ ks.length ≤ 6 ∧ fs.length ≤ 3 ∧ us.length ≤ 3 ∧
  ((∃ z, y = .str z ∧ ∀ H', Same H H' → Q (.bl (decide (z ∈ bsOf ks fs us))) H') ∨ (∃ t, TyX K H y t ∧ PySem.W.kitOne K t (.type "str") = some false ∧ ∀ H', Same H H' → Q (.bl false) H'))
theorem ok_contains {f f1 f2 C : Addr} {fd fd1 fd2 : FuncData} (F : Fun K "__contains__" "Schema.__contains__" s_Schema_contains f fd) (M_bases : Mt K C "bases" "Schema.bases" s_Schema_bases f1 fd1 ["self"]) (D_is_key : Df K mg "is_key" s_is_key f2 fd2 ["name", "table"]) (T : Nms mg) (L : ClT K C)
    (G_bases : FnOk P w K mg base CX0 1 f1 fd1 ["self"] (spBases C)) (G_is_key : FnOk P w K mg base CX0 1 f2 fd2 ["name", "table"] (spIsKey K)) : FnOk P w K mg base CX0 2 f fd ["self", "base"] (spContains K C) := by
  refine F.ok sc_Schema_contains (fun vs H Q E h => ?_) (fun cdv A outer s H vs Q E hr h => ?_)
  · obtain ⟨x, y, ks, fs, us, root, rfl, _⟩ := h
    rfl
  · obtain ⟨x, y, ks, fs, us, root, rfl, Bt, k6, f3, u3, q⟩ := h
    have Bt' := Bt
    obtain ⟨dx, kt, ft, ut, ks', fs', us', hx, S, rk, rf, ru⟩ := Bt'
    refine ⟨_, (pss_one (ps_ret (pe_call G_is_key (hr.mono (by decide)) (by rfl) D_is_key.g D_is_key.F.kp D_is_key.b .nil pass0 (pa_cons (pv 1) (pa_cons (pe_meth0 (pv 0) L.cl M_bases.m G_bases (hr.mono (by decide)) M_bases.b .nil pass0) pa_nil))))), ?_⟩
    refine ⟨y, rfl, .ref x, rfl, x, dx, _, rfl, hx, lkn _ _ _ _ (by decide +kernel) (by decide +kernel) (by decide +kernel) (by decide +kernel), x, ks, fs, us, root, rfl, Bt, k6, f3, u3, fun p H1 s1 np e1 => ?_⟩
    rcases q with ⟨z, rfl, q⟩ | ⟨t, ht, hk, q⟩
    · exact ⟨.str z, p, rfl, .inl ⟨z, rfl, .inl ⟨_, .inl (SqL.of e1), q _ s1⟩⟩⟩
    · exact ⟨y, p, rfl, .inr ⟨t, NW.TyX.same s1 ht, hk, q _ s1⟩⟩

def sp_kinds (C : Addr) : Sp := fun vs H Q _ => ∃ (x : Addr) (ks : List KRow) (fs : List FRow) (us : List URow) (root : Str), vs = [.ref x] ∧ BuiltAt C H x ks fs us root ∧ ks.length ≤ 6 ∧ fs.length ≤ 3 ∧ us.length ≤ 3 ∧
  ∀ (ys : List Str) (p : Addr) H', ys.Perm (ks.map (·.nm)) → sortedS ys = true → Same H H' → H p = none → H' p = some (.lst (ys.map V.str)) → Q (.ref p) H'
theorem ok_kinds {f C : Addr} {fd : FuncData} (F : Fun K "kinds" "Schema.kinds" s_Schema_kinds f fd) (T : Nms mg) (L : ClT K C) : FnOk P w K mg base CX0 1 f fd ["self"] (sp_kinds C) := by
  refine F.ok sc_Schema_kinds (fun vs H Q E h => ?_) (fun cdv A outer s H vs Q E hr h => ?_)
  · obtain ⟨x, ks, fs, us, root, rfl, _⟩ := h
    rfl
  · obtain ⟨x, ks, fs, us, root, rfl, Bt, k6, f3, u3, q⟩ := h
    have hnm := Bt.names
    obtain ⟨dx, kt, ft, ut, ks', fs', us', hx, S, rk, rf, ru⟩ := Bt
    obtain ⟨e1, e2, e3⟩ := hnm ks' fs' us' rk rf ru
    refine ⟨_, (pss_one (ps_ret (pe_callB (call_sortedD rfl) (by rfl) T.n_sorted (by decide +kernel) (pa_cons (pe_fld (pv 0) rfl) pa_nil)))), ?_⟩
    refine ⟨.ref x, rfl, x, C, dx, _, _, rfl, hx, L.cl, L.nk, lkk .., kt, kkv ks', _, rfl, .inl S.kd, kkv_keys _, ?_, fun ys p pm so np => ?_⟩
    · have := rk.1
      rw [List.length_map]
      omega
    · refine q ys p _ ?_ so (same_new np) np upd_same
      rw [← e1]
      exact pm

def sp_faces (C : Addr) : Sp := fun vs H Q _ => ∃ (x : Addr) (ks : List KRow) (fs : List FRow) (us : List URow) (root : Str), vs = [.ref x] ∧ BuiltAt C H x ks fs us root ∧ ks.length ≤ 6 ∧ fs.length ≤ 3 ∧ us.length ≤ 3 ∧
  ∀ (ys : List Str) (p : Addr) H', ys.Perm (fs.map (·.nm)) → sortedS ys = true → Same H H' → H p = none → H' p = some (.lst (ys.map V.str)) → Q (.ref p) H'
theorem ok_faces {f C : Addr} {fd : FuncData} (F : Fun K "faces" "Schema.faces" s_Schema_faces f fd) (T : Nms mg) (L : ClT K C) : FnOk P w K mg base CX0 1 f fd ["self"] (sp_faces C) := by
  refine F.ok sc_Schema_faces (fun vs H Q E h => ?_) (fun cdv A outer s H vs Q E hr h => ?_)
  · obtain ⟨x, ks, fs, us, root, rfl, _⟩ := h
    rfl
  · obtain ⟨x, ks, fs, us, root, rfl, Bt, k6, f3, u3, q⟩ := h
    have hnm := Bt.names
    obtain ⟨dx, kt, ft, ut, ks', fs', us', hx, S, rk, rf, ru⟩ := Bt
    obtain ⟨e1, e2, e3⟩ := hnm ks' fs' us' rk rf ru
    refine ⟨_, (pss_one (ps_ret (pe_callB (call_sortedD rfl) (by rfl) T.n_sorted (by decide +kernel) (pa_cons (pe_fld (pv 0) rfl) pa_nil)))), ?_⟩
    refine ⟨.ref x, rfl, x, C, dx, _, _, rfl, hx, L.cl, L.nf, lkf .., ft, fkvs fs', _, rfl, .inl S.fd, fkvs_keys _, ?_, fun ys p pm so np => ?_⟩
    · have := rf.1
      rw [List.length_map]
      omega
    · refine q ys p _ ?_ so (same_new np) np upd_same
      rw [← e2]
      exact pm

def sp_unions (C : Addr) : Sp := fun vs H Q _ => ∃ (x : Addr) (ks : List KRow) (fs : List FRow) (us : List URow) (root : Str), vs = [.ref x] ∧ BuiltAt C H x ks fs us root ∧ ks.length ≤ 6 ∧ fs.length ≤ 3 ∧ us.length ≤ 3 ∧
  ∀ (ys : List Str) (p : Addr) H', ys.Perm (us.map (·.nm)) → sortedS ys = true → Same H H' → H p = none → H' p = some (.lst (ys.map V.str)) → Q (.ref p) H'
theorem ok_unions {f C : Addr} {fd : FuncData} (F : Fun K "unions" "Schema.unions" s_Schema_unions f fd) (T : Nms mg) (L : ClT K C) : FnOk P w K mg base CX0 1 f fd ["self"] (sp_unions C) := by
  refine F.ok sc_Schema_unions (fun vs H Q E h => ?_) (fun cdv A outer s H vs Q E hr h => ?_)
  · obtain ⟨x, ks, fs, us, root, rfl, _⟩ := h
    rfl
  · obtain ⟨x, ks, fs, us, root, rfl, Bt, k6, f3, u3, q⟩ := h
    have hnm := Bt.names
    obtain ⟨dx, kt, ft, ut, ks', fs', us', hx, S, rk, rf, ru⟩ := Bt
    obtain ⟨e1, e2, e3⟩ := hnm ks' fs' us' rk rf ru
    refine ⟨_, (pss_one (ps_ret (pe_callB (call_sortedD rfl) (by rfl) T.n_sorted (by decide +kernel) (pa_cons (pe_fld (pv 0) rfl) pa_nil)))), ?_⟩
    refine ⟨.ref x, rfl, x, C, dx, _, _, rfl, hx, L.cl, L.nu, lku .., ut, ukv us', _, rfl, .inl S.ud, ukv_keys _, ?_, fun ys p pm so np => ?_⟩
    · have := ru.1
      rw [List.length_map]
      omega
    · refine q ys p _ ?_ so (same_new np) np upd_same
      rw [← e3]
      exact pm

end
end NW
namespace NW
open PySem PySem.Spec PyProof.Rows L2
open TL (tl)
open StX (pa_star)
abbrev s_Lsame : Stmt := topS 47
abbrev N_Lsame : List Str := ["_law_one", "_law_other", "_law_key", "_law_k"]
theorem sc_Lsame : FnScope N_Lsame ["_law_one", "_law_other"] (defScope s_Lsame) := ⟨rfl, rfl, rfl, by decide +kernel, rfl, by decide +kernel, by decide +kernel⟩
theorem ix_seqK {X : Cx} (K : PySem.W.Frag) (h : X.K = K := by rfl) : IxR X (rIx K) := h ▸ ix_seq
def Sc (x : V) : Prop := x = .non ∨ (∃ b, x = .bl b) ∨ (∃ i, x = .int i) ∨ ∃ z, x = .str z
/-- x and y are the same data, so deep -/
def SameV : Nat → Hp → V → V → Prop
  | 0, _, x, y => x = y ∧ Sc y
  | n + 1, H, x, y => (x = y ∧ Sc y) ∨
    (∃ a b xs ys, x = .ref a ∧ y = .ref b ∧ ((H a = some (.lst xs) ∧ H b = some (.lst ys)) ∨ (H a = some (.tup xs) ∧ H b = some (.tup ys))) ∧ xs.length = ys.length ∧ ys.length ≤ 1000 ∧ ∀ (i : Nat) u v, xs[i]? = some u → ys[i]? = some v → SameV n H u v) ∨
    (∃ a b kvs lvs, x = .ref a ∧ y = .ref b ∧ H a = some (.dK kvs) ∧ H b = some (.dK lvs) ∧ kvs.length = lvs.length ∧ lvs.length ≤ 1000 ∧ (lvs.map (·.1)).Nodup ∧ ∀ k v, (k, v) ∈ lvs → valV kvs k = some v ∧ Sc v)
theorem SameV.same {H H' : Hp} (s : Same H H') : ∀ {n : Nat} {x y : V}, SameV n H x y → SameV n H' x y := by
  intro n
  induction n with
  | zero => intro x y h; exact h
  | succ n ih =>
    rintro x y (h | ⟨a, b, xs, ys, e1, e2, h, hl, h1, h2⟩ | ⟨a, b, kvs, lvs, e1, e2, h1, h2, h3⟩)
    · exact .inl h
    · refine .inr (.inl ⟨a, b, xs, ys, e1, e2, ?_, hl, h1, fun i u v eu ev => ih (h2 i u v eu ev)⟩)
      rcases h with ⟨p, q⟩ | ⟨p, q⟩
      · exact .inl ⟨s _ _ p, s _ _ q⟩
      · exact .inr ⟨s _ _ p, s _ _ q⟩
    · exact .inr (.inr ⟨a, b, kvs, lvs, e1, e2, s _ _ h1, s _ _ h2, h3⟩)
theorem SameV.up {H : Hp} : ∀ {n : Nat} {x y : V}, SameV n H x y → SameV (n + 1) H x y := by
  intro n
  induction n with
  | zero => intro x y h; exact .inl h
  | succ n ih =>
    rintro x y (h | ⟨a, b, xs, ys, e1, e2, h, hl, h1, h2⟩ | h)
    · exact .inl h
    · exact .inr (.inl ⟨a, b, xs, ys, e1, e2, h, hl, h1, fun i u v eu ev => ih (h2 i u v eu ev)⟩)
    · exact .inr (.inr h)
theorem SameV.strs {H : Hp} {a b : Addr} {l : List Str} (ha : H a = some (.lst (l.map V.str))) (hb : H b = some (.lst (l.map V.str))) (hl : l.length ≤ 1000) : SameV 1 H (.ref a) (.ref b) :=
  .inr (.inl ⟨a, b, _, _, rfl, rfl, .inl ⟨ha, hb⟩, rfl, by rw [List.length_map]; exact hl, fun i u v eu ev => by
    rw [eu] at ev
    cases ev
    rw [List.getElem?_map] at eu
    cases e : l[i]? with
    | none => rw [e] at eu; cases eu
    | some z =>
      rw [e] at eu
      cases eu
      exact ⟨rfl, .inr (.inr (.inr ⟨z, rfl⟩))⟩⟩)
section
variable {P : Program} {w : World} {K : PySem.W.Frag} {mg : Str → Option Value} {base : Heap}

def spLsame (n : Nat) : Sp := fun vs H Q _ => ∃ x y, vs = [x, y] ∧ SameV n H x y ∧ ∀ H', Same H H' → Q (.bl true) H'
theorem ok_Lsame {f : Addr} {fd : FuncData} (D_Lsame : Df K mg "_law_same" s_Lsame f fd ["_law_one", "_law_other"]) (T : Nms mg) : ∀ n : Nat, FnOk P w K mg base CX0 (n + 1) f fd ["_law_one", "_law_other"] (spLsame n) := by
  intro n
  induction n with
  | zero =>
    refine D_Lsame.F.ok sc_Lsame (fun vs H Q E h => ?_) (fun cdv A outer s H vs Q E hr h => ?_)
    · obtain ⟨x, y, rfl, _⟩ := h
      rfl
    · obtain ⟨x, y, rfl, h, q⟩ := h
      refine ⟨_, (pss_cons (ps_if (pt_val (pe_callB call_isi (by rfl) T.n_isinstance (by decide +kernel) (pa_cons (pv 1) (pa_cons (pe_bltn (v := .ty "dict") (by rfl) T.n_dict (by decide +kernel) rfl) pa_nil)))) (pss_cons ps_never (pss_cons ps_never (pss_one ps_never))) pss_nil)
      (pss_cons (ps_if (PW.pt (pw_or (pt_val (pe_callB call_isi (by rfl) T.n_isinstance (by decide +kernel) (pa_cons (pv 1) (pa_cons (pe_bltn (v := .ty "list") (by rfl) T.n_list (by decide +kernel) rfl) pa_nil)))) (pw_or1 (pt_val (pe_callB call_isi (by rfl) T.n_isinstance (by decide +kernel) (pa_cons (pv 1) (pa_cons (pe_bltn (v := .ty "tuple") (by rfl) T.n_tuple (by decide +kernel) rfl) pa_nil))))))) (pss_cons ps_never (pss_cons ps_never (pss_one ps_never))) pss_nil)
      (pss_cons (ps_if (pt_cmpR op_isN (pv 1) pe_non (nomark _))
       (pss_one (ps_ret (pe_cmpR op_isN (pv 0) pe_non (nomark _))))
       pss_nil)
      (pss_cons (ps_if (pt_val (pe_callB call_isi (by rfl) T.n_isinstance (by decide +kernel) (pa_cons (pv 1) (pa_cons (pe_bltn (v := .ty "str") (by rfl) T.n_str (by decide +kernel) rfl) pa_nil))))
       (pss_one (ps_ret (pe_and (pe_callB call_isi (by rfl) T.n_isinstance (by decide +kernel) (pa_cons (pv 0) (pa_cons (pe_bltn (v := .ty "str") (by rfl) T.n_str (by decide +kernel) rfl) pa_nil))) (pe_one (pe_cmpR op_eq (pv 0) (pv 1) (nomark _))))))
       pss_nil)
      (pss_one (ps_ret (pe_and (pe_callB call_isi (by rfl) T.n_isinstance (by decide +kernel) (pa_cons (pv 0) (pa_cons (pe_bltn (v := .ty "int") (by rfl) T.n_int (by decide +kernel) rfl) pa_nil))) (pe_and (pe_cmpR op_eq (pe_callB call_isi (by rfl) T.n_isinstance (by decide +kernel) (pa_cons (pv 0) (pa_cons (pe_bltn (v := .ty "bool") (by rfl) T.n_bool (by decide +kernel) rfl) pa_nil))) (pe_callB call_isi (by rfl) T.n_isinstance (by decide +kernel) (pa_cons (pv 1) (pa_cons (pe_bltn (v := .ty "bool") (by rfl) T.n_bool (by decide +kernel) rfl) pa_nil))) (nomark _)) (pe_one (pe_cmpR op_eq (pv 0) (pv 1) (nomark _))))))))))), ?_⟩
      obtain ⟨rfl, sc⟩ := h
      rcases sc with rfl | ⟨bb, rfl⟩ | ⟨ii, rfl⟩ | ⟨zz, rfl⟩
      · refine ⟨.non, rfl, _, _, _, _, false, rfl, .ty "dict", .base .non, kit_ty (by decide +kernel), false, rfl, iteF ?_⟩
        refine ⟨.non, rfl, _, _, _, _, false, rfl, .ty "list", .base .non, kit_ty (by decide +kernel), false, rfl, iteF ⟨.non, rfl, _, _, _, _, false, rfl, .ty "tuple", .base .non, kit_ty (by decide +kernel), false, rfl, iteF ?_⟩⟩
        refine ⟨.non, rfl, rfl, true, blT rfl, iteT ⟨.non, rfl, rfl, ?_⟩⟩
        rw [decide_eq_true rfl]
        exact q _ (Same.refl _)
      · refine ⟨.bl bb, rfl, _, _, _, _, false, rfl, .ty "dict", .base (.bl bb), kit_ty (by decide +kernel), false, rfl, iteF ?_⟩
        refine ⟨.bl bb, rfl, _, _, _, _, false, rfl, .ty "list", .base (.bl bb), kit_ty (by decide +kernel), false, rfl, iteF ⟨.bl bb, rfl, _, _, _, _, false, rfl, .ty "tuple", .base (.bl bb), kit_ty (by decide +kernel), false, rfl, iteF ?_⟩⟩
        refine ⟨.bl bb, rfl, rfl, false, blF (by intro z; cases z), iteF ?_⟩
        refine ⟨.bl bb, rfl, _, _, _, _, false, rfl, .ty "str", .base (.bl bb), kit_ty (by decide +kernel), false, rfl, iteF ⟨.bl bb, rfl, _, _, _, _, true, rfl, .ty "int", .base (.bl bb), kit_ty (by decide +kernel), true, rfl, iteT ⟨.bl bb, rfl, _, _, _, _, true, rfl, .ty "bool", .base (.bl bb), kit_ty (by decide +kernel), .bl bb, rfl, _, _, _, _, true, rfl, .ty "bool", .base (.bl bb), kit_ty (by decide +kernel), rfl, true, blT rfl, iteT ⟨.bl bb, rfl, .bl bb, rfl, rfl, ?_⟩⟩⟩⟩
        rw [decide_eq_true rfl]
        exact q _ (Same.refl _)
      · refine ⟨.int ii, rfl, _, _, _, _, false, rfl, .ty "dict", .base (.int ii), kit_ty (by decide +kernel), false, rfl, iteF ?_⟩
        refine ⟨.int ii, rfl, _, _, _, _, false, rfl, .ty "list", .base (.int ii), kit_ty (by decide +kernel), false, rfl, iteF ⟨.int ii, rfl, _, _, _, _, false, rfl, .ty "tuple", .base (.int ii), kit_ty (by decide +kernel), false, rfl, iteF ?_⟩⟩
        refine ⟨.int ii, rfl, rfl, false, blF (by intro z; cases z), iteF ?_⟩
        refine ⟨.int ii, rfl, _, _, _, _, false, rfl, .ty "str", .base (.int ii), kit_ty (by decide +kernel), false, rfl, iteF ⟨.int ii, rfl, _, _, _, _, true, rfl, .ty "int", .base (.int ii), kit_ty (by decide +kernel), true, rfl, iteT ⟨.int ii, rfl, _, _, _, _, false, rfl, .ty "bool", .base (.int ii), kit_ty (by decide +kernel), .int ii, rfl, _, _, _, _, false, rfl, .ty "bool", .base (.int ii), kit_ty (by decide +kernel), rfl, true, blT rfl, iteT ⟨.int ii, rfl, .int ii, rfl, rfl, ?_⟩⟩⟩⟩
        rw [decide_eq_true rfl]
        exact q _ (Same.refl _)
      · refine ⟨.str zz, rfl, _, _, _, _, false, rfl, .ty "dict", .base (.str zz), kit_ty (by decide +kernel), false, rfl, iteF ?_⟩
        refine ⟨.str zz, rfl, _, _, _, _, false, rfl, .ty "list", .base (.str zz), kit_ty (by decide +kernel), false, rfl, iteF ⟨.str zz, rfl, _, _, _, _, false, rfl, .ty "tuple", .base (.str zz), kit_ty (by decide +kernel), false, rfl, iteF ?_⟩⟩
        refine ⟨.str zz, rfl, rfl, false, blF (by intro z; cases z), iteF ?_⟩
        refine ⟨.str zz, rfl, _, _, _, _, true, rfl, .ty "str", .base (.str zz), kit_ty (by decide +kernel), true, rfl, iteT ⟨.str zz, rfl, _, _, _, _, true, rfl, .ty "str", .base (.str zz), kit_ty (by decide +kernel), true, rfl, iteT ⟨.str zz, rfl, .str zz, rfl, rfl, ?_⟩⟩⟩
        rw [decide_eq_true rfl]
        exact q _ (Same.refl _)
  | succ n ih =>
    have G_Lsame := ih
    refine D_Lsame.F.ok sc_Lsame (fun vs H Q E h => ?_) (fun cdv A outer s H vs Q E hr h => ?_)
    · obtain ⟨x, y, rfl, _⟩ := h
      rfl
    · obtain ⟨x, y, rfl, h, q⟩ := h
      have hu := hu_of hr
      refine ⟨_, (pss_cons (ps_if (pt_val (pe_callB call_isi (by rfl) T.n_isinstance (by decide +kernel) (pa_cons (pv 1) (pa_cons (pe_bltn (v := .ty "dict") (by rfl) T.n_dict (by decide +kernel) rfl) pa_nil))))
       (pss_cons (ps_if (PW.pt (pw_or (pt_not (pt_val (pe_callB call_isi (by rfl) T.n_isinstance (by decide +kernel) (pa_cons (pv 0) (pa_cons (pe_bltn (v := .ty "dict") (by rfl) T.n_dict (by decide +kernel) rfl) pa_nil))))) (pw_or1 (pt_cmpR op_ne (pe_callB call_lenR (by rfl) T.n_len (by decide +kernel) (pa_cons (pv 0) pa_nil)) (pe_callB call_lenR (by rfl) T.n_len (by decide +kernel) (pa_cons (pv 1) pa_nil)) (nomark _)))))
         (pss_one (ps_ret pe_bl))
         pss_nil)
        (pss_cons (ps_if (pt_not (pt_val (pe_callB (cr_all rfl) (by rfl) T.n_all (by decide +kernel) (pa_cons (pe_lock (pe_lc (own := [("_law_key", 2)]) (g := (gName 2)) (tt := tYes) rfl sc_Lsame.nd (pi_keys (pv 1)) (blkOk_by (own := [("_law_key", 2)]) (N := N_Lsame) (sc := defScope s_Lsame) (by decide +kernel)) (fun _ _ _ _ _ => (pg_name (i := 2) sc_Lsame.nd rfl (.inl rfl))) (fun _ _ _ _ _ => pts_nil) (fun _ _ _ _ _ => (pe_cmp (pc_din hu (pv 2) (pv 0)) rfl)))) pa_nil))))
         (pss_one (ps_ret pe_bl))
         pss_nil)
        (pss_one (ps_ret (pe_callB (cr_all rfl) (by rfl) T.n_all (by decide +kernel) (pa_cons (pe_lock (pe_lc (own := [("_law_key", 2)]) (g := (gName 2)) (tt := tYes) rfl sc_Lsame.nd (pi_keys (pv 1)) (blkOk_by (own := [("_law_key", 2)]) (N := N_Lsame) (sc := defScope s_Lsame) (by decide +kernel)) (fun _ _ _ _ _ => (pg_name (i := 2) sc_Lsame.nd rfl (.inl rfl))) (fun _ _ _ _ _ => pts_nil) (fun _ _ _ _ _ => (pe_call G_Lsame (hr.mono (by omega)) (by rfl) D_Lsame.g D_Lsame.F.kp D_Lsame.b .nil pass0 (pa_cons (pe_dget hu (pv 0) (pv 2) (fun _ _ => rfl)) (pa_cons (pe_dget hu (pv 1) (pv 2) (fun _ _ => rfl)) pa_nil)))))) pa_nil))))))
       pss_nil)
      (pss_cons (ps_if (PW.pt (pw_or (pt_val (pe_callB call_isi (by rfl) T.n_isinstance (by decide +kernel) (pa_cons (pv 1) (pa_cons (pe_bltn (v := .ty "list") (by rfl) T.n_list (by decide +kernel) rfl) pa_nil)))) (pw_or1 (pt_val (pe_callB call_isi (by rfl) T.n_isinstance (by decide +kernel) (pa_cons (pv 1) (pa_cons (pe_bltn (v := .ty "tuple") (by rfl) T.n_tuple (by decide +kernel) rfl) pa_nil)))))))
       (pss_cons (ps_if (pt_cmpR op_ne (pe_callB call_isi (by rfl) T.n_isinstance (by decide +kernel) (pa_cons (pv 0) (pa_cons (pe_bltn (v := .ty "list") (by rfl) T.n_list (by decide +kernel) rfl) pa_nil))) (pe_callB call_isi (by rfl) T.n_isinstance (by decide +kernel) (pa_cons (pv 1) (pa_cons (pe_bltn (v := .ty "list") (by rfl) T.n_list (by decide +kernel) rfl) pa_nil))) (nomark _))
         (pss_one (ps_ret pe_bl))
         pss_nil)
        (pss_cons (ps_if (PW.pt (pw_or (pt_cmpR op_ne (pe_callB call_isi (by rfl) T.n_isinstance (by decide +kernel) (pa_cons (pv 0) (pa_cons (pe_bltn (v := .ty "tuple") (by rfl) T.n_tuple (by decide +kernel) rfl) pa_nil))) (pe_callB call_isi (by rfl) T.n_isinstance (by decide +kernel) (pa_cons (pv 1) (pa_cons (pe_bltn (v := .ty "tuple") (by rfl) T.n_tuple (by decide +kernel) rfl) pa_nil))) (nomark _)) (pw_or1 (pt_cmpR op_ne (pe_callB call_len_seq (by rfl) T.n_len (by decide +kernel) (pa_cons (pv 0) pa_nil)) (pe_callB call_len_seq (by rfl) T.n_len (by decide +kernel) (pa_cons (pv 1) pa_nil)) (nomark _)))))
         (pss_one (ps_ret pe_bl))
         pss_nil)
        (pss_one (ps_ret (pe_callB (cr_all rfl) (by rfl) T.n_all (by decide +kernel) (pa_cons (pe_lc (own := [("_law_k", 3)]) (g := (gName 3)) (tt := tYes) rfl sc_Lsame.nd (pi_range1 (by rfl) T.n_range (pa_cons (pe_callB call_len_seq (by rfl) T.n_len (by decide +kernel) (pa_cons (pv 1) pa_nil)) pa_nil)) (blkOk_by (own := [("_law_k", 3)]) (N := N_Lsame) (sc := defScope s_Lsame) (by decide +kernel)) (fun _ _ _ _ _ => (pg_name (i := 3) sc_Lsame.nd rfl (.inl rfl))) (fun _ _ _ _ _ => pts_nil) (fun _ _ _ _ _ => (pe_call G_Lsame (hr.mono (by omega)) (by rfl) D_Lsame.g D_Lsame.F.kp D_Lsame.b .nil pass0 (pa_cons (pe_ix (ix_seqK K) (pv 0) (pv 3) (fun _ _ => rfl)) (pa_cons (pe_ix (ix_seqK K) (pv 1) (pv 3) (fun _ _ => rfl)) pa_nil))))) pa_nil))))))
       pss_nil)
      (pss_cons (ps_if (pt_cmpR op_isN (pv 1) pe_non (nomark _))
       (pss_one (ps_ret (pe_cmpR op_isN (pv 0) pe_non (nomark _))))
       pss_nil)
      (pss_cons (ps_if (pt_val (pe_callB call_isi (by rfl) T.n_isinstance (by decide +kernel) (pa_cons (pv 1) (pa_cons (pe_bltn (v := .ty "str") (by rfl) T.n_str (by decide +kernel) rfl) pa_nil))))
       (pss_one (ps_ret (pe_and (pe_callB call_isi (by rfl) T.n_isinstance (by decide +kernel) (pa_cons (pv 0) (pa_cons (pe_bltn (v := .ty "str") (by rfl) T.n_str (by decide +kernel) rfl) pa_nil))) (pe_one (pe_cmpR op_eq (pv 0) (pv 1) (nomark _))))))
       pss_nil)
      (pss_one (ps_ret (pe_and (pe_callB call_isi (by rfl) T.n_isinstance (by decide +kernel) (pa_cons (pv 0) (pa_cons (pe_bltn (v := .ty "int") (by rfl) T.n_int (by decide +kernel) rfl) pa_nil))) (pe_and (pe_cmpR op_eq (pe_callB call_isi (by rfl) T.n_isinstance (by decide +kernel) (pa_cons (pv 0) (pa_cons (pe_bltn (v := .ty "bool") (by rfl) T.n_bool (by decide +kernel) rfl) pa_nil))) (pe_callB call_isi (by rfl) T.n_isinstance (by decide +kernel) (pa_cons (pv 1) (pa_cons (pe_bltn (v := .ty "bool") (by rfl) T.n_bool (by decide +kernel) rfl) pa_nil))) (nomark _)) (pe_one (pe_cmpR op_eq (pv 0) (pv 1) (nomark _))))))))))), ?_⟩
      rcases h with h | ⟨a, b, xs, ys, rfl, rfl, h, hl, h1, h2⟩ | ⟨a, b, kvs, lvs, rfl, rfl, ha, hb, hl, h1, hnd, h2⟩
      · skip
        obtain ⟨rfl, sc⟩ := h
        rcases sc with rfl | ⟨bb, rfl⟩ | ⟨ii, rfl⟩ | ⟨zz, rfl⟩
        · refine ⟨.non, rfl, _, _, _, _, false, rfl, .ty "dict", .base .non, kit_ty (by decide +kernel), false, rfl, iteF ?_⟩
          refine ⟨.non, rfl, _, _, _, _, false, rfl, .ty "list", .base .non, kit_ty (by decide +kernel), false, rfl, iteF ⟨.non, rfl, _, _, _, _, false, rfl, .ty "tuple", .base .non, kit_ty (by decide +kernel), false, rfl, iteF ?_⟩⟩
          refine ⟨.non, rfl, rfl, true, blT rfl, iteT ⟨.non, rfl, rfl, ?_⟩⟩
          rw [decide_eq_true rfl]
          exact q _ (Same.refl _)
        · refine ⟨.bl bb, rfl, _, _, _, _, false, rfl, .ty "dict", .base (.bl bb), kit_ty (by decide +kernel), false, rfl, iteF ?_⟩
          refine ⟨.bl bb, rfl, _, _, _, _, false, rfl, .ty "list", .base (.bl bb), kit_ty (by decide +kernel), false, rfl, iteF ⟨.bl bb, rfl, _, _, _, _, false, rfl, .ty "tuple", .base (.bl bb), kit_ty (by decide +kernel), false, rfl, iteF ?_⟩⟩
          refine ⟨.bl bb, rfl, rfl, false, blF (by intro z; cases z), iteF ?_⟩
          refine ⟨.bl bb, rfl, _, _, _, _, false, rfl, .ty "str", .base (.bl bb), kit_ty (by decide +kernel), false, rfl, iteF ⟨.bl bb, rfl, _, _, _, _, true, rfl, .ty "int", .base (.bl bb), kit_ty (by decide +kernel), true, rfl, iteT ⟨.bl bb, rfl, _, _, _, _, true, rfl, .ty "bool", .base (.bl bb), kit_ty (by decide +kernel), .bl bb, rfl, _, _, _, _, true, rfl, .ty "bool", .base (.bl bb), kit_ty (by decide +kernel), rfl, true, blT rfl, iteT ⟨.bl bb, rfl, .bl bb, rfl, rfl, ?_⟩⟩⟩⟩
          rw [decide_eq_true rfl]
          exact q _ (Same.refl _)
        · refine ⟨.int ii, rfl, _, _, _, _, false, rfl, .ty "dict", .base (.int ii), kit_ty (by decide +kernel), false, rfl, iteF ?_⟩
          refine ⟨.int ii, rfl, _, _, _, _, false, rfl, .ty "list", .base (.int ii), kit_ty (by decide +kernel), false, rfl, iteF ⟨.int ii, rfl, _, _, _, _, false, rfl, .ty "tuple", .base (.int ii), kit_ty (by decide +kernel), false, rfl, iteF ?_⟩⟩
          refine ⟨.int ii, rfl, rfl, false, blF (by intro z; cases z), iteF ?_⟩
          refine ⟨.int ii, rfl, _, _, _, _, false, rfl, .ty "str", .base (.int ii), kit_ty (by decide +kernel), false, rfl, iteF ⟨.int ii, rfl, _, _, _, _, true, rfl, .ty "int", .base (.int ii), kit_ty (by decide +kernel), true, rfl, iteT ⟨.int ii, rfl, _, _, _, _, false, rfl, .ty "bool", .base (.int ii), kit_ty (by decide +kernel), .int ii, rfl, _, _, _, _, false, rfl, .ty "bool", .base (.int ii), kit_ty (by decide +kernel), rfl, true, blT rfl, iteT ⟨.int ii, rfl, .int ii, rfl, rfl, ?_⟩⟩⟩⟩
          rw [decide_eq_true rfl]
          exact q _ (Same.refl _)
        · refine ⟨.str zz, rfl, _, _, _, _, false, rfl, .ty "dict", .base (.str zz), kit_ty (by decide +kernel), false, rfl, iteF ?_⟩
          refine ⟨.str zz, rfl, _, _, _, _, false, rfl, .ty "list", .base (.str zz), kit_ty (by decide +kernel), false, rfl, iteF ⟨.str zz, rfl, _, _, _, _, false, rfl, .ty "tuple", .base (.str zz), kit_ty (by decide +kernel), false, rfl, iteF ?_⟩⟩
          refine ⟨.str zz, rfl, rfl, false, blF (by intro z; cases z), iteF ?_⟩
          refine ⟨.str zz, rfl, _, _, _, _, true, rfl, .ty "str", .base (.str zz), kit_ty (by decide +kernel), true, rfl, iteT ⟨.str zz, rfl, _, _, _, _, true, rfl, .ty "str", .base (.str zz), kit_ty (by decide +kernel), true, rfl, iteT ⟨.str zz, rfl, .str zz, rfl, rfl, ?_⟩⟩⟩
          rw [decide_eq_true rfl]
          exact q _ (Same.refl _)
      · -- lists, tuples
        rcases h with ⟨ha, hb⟩ | ⟨ha, hb⟩
        · refine ⟨.ref b, rfl, _, _, _, _, false, rfl, .ty "dict", .base (.lst hb), kit_ty (by decide +kernel), false, rfl, iteF ?_⟩
          refine ⟨.ref b, rfl, _, _, _, _, true, rfl, .ty "list", .base (.lst hb), kit_ty (by decide +kernel), true, rfl, iteT ?_⟩
          refine ⟨.ref a, rfl, _, _, _, _, true, rfl, .ty "list", .base (.lst ha), kit_ty (by decide +kernel), .ref b, rfl, _, _, _, _, true, rfl, .ty "list", .base (.lst hb), kit_ty (by decide +kernel), rfl, false, blNF rfl, iteF ?_⟩
          refine ⟨.ref a, rfl, _, _, _, _, false, rfl, .ty "tuple", .base (.lst ha), kit_ty (by decide +kernel), .ref b, rfl, _, _, _, _, false, rfl, .ty "tuple", .base (.lst hb), kit_ty (by decide +kernel), rfl, false, blNF rfl, iteF ⟨.ref a, rfl, a, xs, rfl, .inl (SqL.of ha), .ref b, rfl, b, ys, rfl, .inl (SqL.of hb), rfl, false, blNF (by rw [hl]), iteF ?_⟩⟩
          refine ⟨.ref b, rfl, b, ys, rfl, .inl (SqL.of hb), ys.length, rfl, by omega, by omega, fun Da nD => ?_⟩
          refine lc_all (walk_range (lo := 0) (n := ys.length)) (fun i x => x = .int (0 + (i : Int))) (fun i H x H' hi y => y) (fun _ _ => trivial) nD h1 (fun _ => rfl) ?_ ?_
          · rintro i x H2 Q2 hi rfl sm k
            have ex : xs[i]? = some (xs[i]'(by omega)) := List.getElem?_eq_getElem _
            have ey : ys[i]? = some ys[i] := List.getElem?_eq_getElem _
            exact ⟨.ref a, rfl, _, rfl, .inl ⟨a, xs, _, _, rfl, rfl, SqL.of (sm _ _ ha), at_of (j := i) (by omega) ex, .ref b, rfl, _, rfl, .inl ⟨b, ys, _, _, rfl, rfl, SqL.of (sm _ _ hb), at_of (j := i) (by omega) ey, _, _, rfl, SameV.same sm (h2 i _ _ ex ey), k⟩⟩⟩
          · intro H2 sm e2
            refine ⟨Da, List.replicate ys.length true, rfl, SqL.of e2, ?_⟩
            rw [all_true]
            exact q _ sm
        · refine ⟨.ref b, rfl, _, _, _, _, false, rfl, .ty "dict", .base (.tup hb), kit_ty (by decide +kernel), false, rfl, iteF ?_⟩
          refine ⟨.ref b, rfl, _, _, _, _, false, rfl, .ty "list", .base (.tup hb), kit_ty (by decide +kernel), false, rfl, iteF ⟨.ref b, rfl, _, _, _, _, true, rfl, .ty "tuple", .base (.tup hb), kit_ty (by decide +kernel), true, rfl, ?_⟩⟩
          refine iteT ?_
          refine ⟨.ref a, rfl, _, _, _, _, false, rfl, .ty "list", .base (.tup ha), kit_ty (by decide +kernel), .ref b, rfl, _, _, _, _, false, rfl, .ty "list", .base (.tup hb), kit_ty (by decide +kernel), rfl, false, blNF rfl, iteF ?_⟩
          refine ⟨.ref a, rfl, _, _, _, _, true, rfl, .ty "tuple", .base (.tup ha), kit_ty (by decide +kernel), .ref b, rfl, _, _, _, _, true, rfl, .ty "tuple", .base (.tup hb), kit_ty (by decide +kernel), rfl, false, blNF rfl, iteF ⟨.ref a, rfl, a, xs, rfl, .inr (.inl (.inl ha)), .ref b, rfl, b, ys, rfl, .inr (.inl (.inl hb)), rfl, false, blNF (by rw [hl]), iteF ?_⟩⟩
          refine ⟨.ref b, rfl, b, ys, rfl, .inr (.inl (.inl hb)), ys.length, rfl, by omega, by omega, fun Da nD => ?_⟩
          refine lc_all (walk_range (lo := 0) (n := ys.length)) (fun i x => x = .int (0 + (i : Int))) (fun i H x H' hi y => y) (fun _ _ => trivial) nD h1 (fun _ => rfl) ?_ ?_
          · rintro i x H2 Q2 hi rfl sm k
            have ex : xs[i]? = some (xs[i]'(by omega)) := List.getElem?_eq_getElem _
            have ey : ys[i]? = some ys[i] := List.getElem?_eq_getElem _
            exact ⟨.ref a, rfl, _, rfl, .inr (.inl ⟨a, xs, _, _, rfl, rfl, .inl (.inl (sm _ _ ha)), at_of (j := i) (by omega) ex, .ref b, rfl, _, rfl, .inr (.inl ⟨b, ys, _, _, rfl, rfl, .inl (.inl (sm _ _ hb)), at_of (j := i) (by omega) ey, _, _, rfl, SameV.same sm (h2 i _ _ ex ey), k⟩)⟩)⟩
          · intro H2 sm e2
            refine ⟨Da, List.replicate ys.length true, rfl, SqL.of e2, ?_⟩
            rw [all_true]
            exact q _ sm

      · -- dicts
        refine ⟨.ref b, rfl, _, _, _, _, true, rfl, .ty "dict", .base (.dK hb), kit_ty (by decide +kernel), true, rfl, iteT ?_⟩
        refine ⟨.ref a, rfl, _, _, _, _, true, rfl, .ty "dict", .base (.dK ha), kit_ty (by decide +kernel), true, rfl, iteF ⟨.ref a, rfl, a, kvs, rfl, .inl ha, .ref b, rfl, b, lvs, rfl, .inl hb, rfl, false, blNF (by rw [hl]), iteF ?_⟩⟩
        -- all keys
        refine ⟨b, .dK lvs, hb, trivial, fun od => ⟨.ref b, rfl, b, od, rfl, .inl ⟨lvs, upd_same, fun Da nD => ?_⟩⟩⟩
        have rd1 : ∀ {H2 : Hp} {od : Obj}, Same (upd H b (.frz od (.dK lvs))) H2 → Rd H2 a (.dK kvs) := fun sm => rd_same sm (rd_put hb ha)
        refine lc_all walk_keys (fun i x => ∃ k v, (k, v) ∈ lvs ∧ x = kV k) ?_ (fun H sm => sm _ _ upd_same) nD h1 (fun _ => rfl) ?_ ?_
        · rintro i H x H' hi ⟨rfl, k, v, e, rfl⟩
          exact ⟨rfl, k, v, List.mem_of_getElem? e, rfl⟩
        · rintro i x H2 Q2 hi ⟨k, v, m, rfl⟩ sm kk
          refine ⟨kV k, rfl, .ref a, rfl, a, _, rfl, .inl ⟨kvs, k, rd1 sm, rfl, rfl⟩, ?_⟩
          rw [(h2 k v m).1]
          exact kk _ (Same.refl _)
        · intro H2 sm e2
          refine ⟨sm _ _ upd_same, Da, List.replicate lvs.length true, rfl, SqL.of ?_, true, by rw [all_true], iteF ?_⟩
          · rw [upd_ne (show Da ≠ b from fun z => by rw [z, upd_same] at nD; cases nD)]
            exact e2
          have s3 : Same H (upd H2 b (.dK lvs)) := same_unlock hb sm
          generalize upd H2 b (.dK lvs) = H3 at s3
          have ha3 := s3 _ _ ha
          have hb3 := s3 _ _ hb
          clear e2 sm nD rd1
          refine ⟨b, .dK lvs, hb3, trivial, fun od => ⟨.ref b, rfl, b, od, rfl, .inl ⟨lvs, upd_same, fun Db nE => ?_⟩⟩⟩
          have rd1 : ∀ {H2 : Hp} {od : Obj}, Same (upd H3 b (.frz od (.dK lvs))) H2 → Rd H2 a (.dK kvs) := fun sm => rd_same sm (rd_put hb3 ha3)
          refine lc_all walk_keys (fun i x => ∃ k v, (k, v) ∈ lvs ∧ x = kV k) ?_ (fun H sm => sm _ _ upd_same) nE h1 (fun _ => rfl) ?_ ?_
          · rintro i H x H' hi ⟨rfl, k, v, e, rfl⟩
            exact ⟨rfl, k, v, List.mem_of_getElem? e, rfl⟩
          · rintro i x H4 Q2 hi ⟨k, v, m, rfl⟩ sm kk
            refine ⟨.ref a, rfl, kV k, rfl, a, v, rfl, .inl ⟨kvs, k, rd1 sm, rfl, (h2 k v m).1.symm⟩, .ref b, rfl, kV k, rfl, b, v, rfl, .inl ⟨lvs, k, .inr ⟨od, sm _ _ upd_same⟩, rfl, (valV_nd hnd m).symm⟩, v, v, rfl, ?_, kk⟩
            cases n with
            | zero => exact ⟨rfl, (h2 k v m).2⟩
            | succ n => exact .inl ⟨rfl, (h2 k v m).2⟩
          · intro H4 sm e4
            refine ⟨sm _ _ upd_same, Db, List.replicate lvs.length true, rfl, SqL.of ?_, ?_⟩
            · rw [upd_ne (show Db ≠ b from fun z => by rw [z, upd_same] at nE; cases nE)]
              exact e4
            · rw [all_true]
              exact q _ (s3.trans (same_unlock hb3 sm))
end
end NW
namespace NW
open PySem PySem.Spec PyProof.Rows L2
open TL (tl)
open StX (pa_star)
abbrev s_Lbases : Stmt := topS 45
abbrev N_Lbases : List Str := ["_law_schema_here"]
theorem sc_Lbases : FnScope N_Lbases ["_law_schema_here"] (defScope s_Lbases) := ⟨rfl, rfl, rfl, by decide +kernel, rfl, by decide +kernel, by decide +kernel⟩
abbrev s_Lmade : Stmt := topS 46
abbrev N_Lmade : List Str := ["_law_schema_here"]
theorem sc_Lmade : FnScope N_Lmade ["_law_schema_here"] (defScope s_Lmade) := ⟨rfl, rfl, rfl, by decide +kernel, rfl, by decide +kernel, by decide +kernel⟩
/-! ### sorted texts are one -/
theorem lt_tot : ∀ {a b : List Nat}, ltCps a b = false → ltCps b a = false → a = b
  | [], [], _, _ => rfl
  | [], _ :: _, h, _ => by simp [ltCps] at h
  | _ :: _, [], _, h => by simp [ltCps] at h
  | x :: r, y :: t, h1, h2 => by
    simp only [ltCps, Bool.or_eq_false_iff, decide_eq_false_iff_not, Bool.and_eq_false_iff, beq_eq_false_iff_ne] at h1 h2
    have e : x = y := by omega
    subst e
    have h3 : ltCps r t = false := by
      rcases h1.2 with h | h
      · exact absurd rfl h
      · exact h
    have h4 : ltCps t r = false := by
      rcases h2.2 with h | h
      · exact absurd rfl h
      · exact h
    rw [lt_tot h3 h4]
theorem lt_trans' : ∀ {a b c : List Nat}, ltCps b a = false → ltCps c b = false → ltCps c a = false
  | [], _, [], _, _ => rfl
  | _ :: _, _, [], h1, h2 => by
    rename_i x r b
    cases b with
    | nil => simp [ltCps] at h1
    | cons y t => simp [ltCps] at h2
  | [], _, _ :: _, _, _ => rfl
  | x :: r, [], z :: u, h1, _ => by simp [ltCps] at h1
  | x :: r, y :: t, z :: u, h1, h2 => by
    simp only [ltCps, Bool.or_eq_false_iff, decide_eq_false_iff_not, Bool.and_eq_false_iff, beq_eq_false_iff_ne] at h1 h2 ⊢
    refine ⟨by omega, ?_⟩
    by_cases e : z = x
    · right
      have e1 : x = y := by omega
      have e2 : y = z := by omega
      subst e1
      rcases h1.2 with h | h
      · exact absurd rfl h
      · rcases h2.2 with h' | h'
        · exact absurd e2.symm h'
        · exact lt_trans' h h'
    · exact .inl e
theorem risingS_pw : ∀ {l : List Str} {p : Str}, risingS p l = true → (p :: l).Pairwise fun a b => ltCps (tl b) (tl a) = false
  | [], p, _ => by simp
  | x :: r, p, h => by
    simp only [risingS, Bool.and_eq_true, Bool.not_eq_true'] at h
    have ih := risingS_pw h.2
    refine List.pairwise_cons.mpr ⟨fun y hy => ?_, ih⟩
    rcases List.mem_cons.mp hy with rfl | hy
    · exact h.1
    · exact lt_trans' h.1 ((List.pairwise_cons.mp ih).1 y hy)
theorem sortedS_pw : ∀ {l : List Str}, sortedS l = true → l.Pairwise fun a b => ltCps (tl b) (tl a) = false
  | [], _ => by simp
  | _ :: _, h => risingS_pw h
theorem tl_inj {a b : Str} (h : tl a = tl b) : a = b := by
  cases a
  cases b
  exact congrArg Str.mk (Array.toList_inj.mp h)
theorem sorted_one {l m : List Str} (hl : sortedS l = true) (hm : sortedS m = true) (p : l.Perm m) : l = m :=
  List.Perm.eq_of_pairwise (le := fun a b => ltCps (tl b) (tl a) = false) (fun a b _ _ h1 h2 => tl_inj (lt_tot h2 h1)) (sortedS_pw hl) (sortedS_pw hm) p
/-- the members of a base: sorted, in one of three ways -/
def MemL (ks : List KRow) (us : List URow) (z : Str) (l : List Str) : Prop := sortedS l = true ∧ l.length ≤ 6 ∧
  ((z ∈ ks.map (·.nm) ∧ l = [z]) ∨ (z ∉ ks.map (·.nm) ∧ ∃ u ∈ us, u.nm = z ∧ l.Perm u.ms) ∨ (z ∉ ks.map (·.nm) ∧ z ∉ us.map (·.nm) ∧ l.Perm ((ks.filter fun k => decide (z ∈ k.fcs)).map (·.nm))))
theorem MemL.one {ks : List KRow} {us : List URow} {z : Str} {l m : List Str} (nd : (us.map (·.nm)).Nodup) (h1 : MemL ks us z l) (h2 : MemL ks us z m) : l = m := by
  obtain ⟨a1, _, a⟩ := h1
  obtain ⟨b1, _, b⟩ := h2
  rcases a with ⟨x1, rfl⟩ | ⟨x1, u, hu, eu, p⟩ | ⟨x1, x2, p⟩
  · rcases b with ⟨_, rfl⟩ | ⟨y, _⟩ | ⟨y, _⟩
    · rfl
    · exact absurd x1 y
    · exact absurd x1 y
  · rcases b with ⟨y, _⟩ | ⟨_, v, hv, ev, p'⟩ | ⟨_, y, _⟩
    · exact absurd y x1
    · have : u = v := by
        obtain ⟨i, hi, ei⟩ := List.getElem_of_mem hu
        obtain ⟨j, hj, ej⟩ := List.getElem_of_mem hv
        have hh : (us.map (·.nm))[i]'(by rw [List.length_map]; exact hi) = (us.map (·.nm))[j]'(by rw [List.length_map]; exact hj) := by
          rw [List.getElem_map, List.getElem_map, ei, ej, eu, ev]
        have e := (List.getElem_inj nd).mp hh
        subst e
        rw [← ei, ← ej]
      subst this
      exact sorted_one a1 b1 (p.trans p'.symm)
    · exact absurd (List.mem_map.mpr ⟨u, hu, eu⟩) y
  · rcases b with ⟨y, _⟩ | ⟨_, v, hv, ev, _⟩ | ⟨_, _, p'⟩
    · exact absurd y x1
    · exact absurd (List.mem_map.mpr ⟨v, hv, ev⟩) x2
    · exact sorted_one a1 b1 (p.trans p'.symm)
section
variable {P : Program} {w : World} {K : PySem.W.Frag} {mg : Str → Option Value} {base : Heap}

def SchT (H : Hp) (q kt ft ut : Addr) (ks : List KRow) (fs : List FRow) (us : List URow) (root : Str) : Prop := H q = some (.tup [.ref kt, .ref ft, .ref ut, .str root]) ∧ SchAt H kt ft ut ks fs us ∧ SchOk ks fs us root
def spLbases : Sp := fun vs H Q _ => ∃ (q kt ft ut : Addr) (ks : List KRow) (fs : List FRow) (us : List URow) (root : Str), vs = [.ref q] ∧ SchT H q kt ft ut ks fs us root ∧
  ∀ (l : List Str) p H', l.Perm (ks.map (·.nm) ++ fs.map (·.nm) ++ us.map (·.nm)) → Same H H' → H p = none → H' p = some (.lst (l.map V.str)) → Q (.ref p) H'
theorem ok_Lbases {f : Addr} {fd : FuncData} (D : Df K mg "_law_bases" s_Lbases f fd ["_law_schema_here"]) (T : Nms mg) : FnOk P w K mg base CX0 1 f fd ["_law_schema_here"] spLbases := by
  refine D.F.ok sc_Lbases (fun vs H Q E h => ?_) (fun cdv A outer s H vs Q E hr h => ?_)
  · obtain ⟨q, kt, ft, ut, ks, fs, us, root, rfl, _⟩ := h
    rfl
  · obtain ⟨q, kt, ft, ut, ks, fs, us, root, rfl, ⟨hq, S, ok⟩, k⟩ := h
    refine ⟨_, (pss_one (ps_ret (pe_callB cr_sortedS (by rfl) T.n_sorted (by decide +kernel) (pa_cons (pe_op op_cat (pe_op op_cat (pe_callTy (call_listD rfl) (by rfl) T.n_list (by decide +kernel) (pa_cons (pe_ix (ix_tupK K) (pv 0) pe_int (fun _ _ => rfl)) pa_nil)) (pe_callTy (call_listD rfl) (by rfl) T.n_list (by decide +kernel) (pa_cons (pe_ix (ix_tupK K) (pv 0) pe_int (fun _ _ => rfl)) pa_nil))) (pe_callTy (call_listD rfl) (by rfl) T.n_list (by decide +kernel) (pa_cons (pe_ix (ix_tupK K) (pv 0) pe_int (fun _ _ => rfl)) pa_nil))) pa_nil)))), ?_⟩
    have k1 := ok.k1
    have f1 := ok.f1
    have u1 := ok.u1
    have hS : ∀ n : Nat, n ≤ 1000 → n ≤ sizeLine := fun n h => Nat.le_trans h (by decide)
    refine ⟨.ref q, rfl, q, _, 0, _, rfl, rfl, .inl (.inl hq), atI_nat (j := 0) rfl, kt, _, rfl, .inl S.kd, fun p1 np1 => ?_⟩
    have s1 := same_new (o := .lst (dkeys (kkv ks))) np1
    refine ⟨.ref q, rfl, q, _, 1, _, rfl, rfl, .inl (.inl (s1 _ _ hq)), atI_nat (j := 1) rfl, ft, _, rfl, .inl (s1 _ _ S.fd), fun p2 np2 => ?_⟩
    have s2 := same_new (o := .lst (dkeys (fkvs fs))) np2
    refine ⟨p1, p2, _, _, rfl, rfl, s2 _ _ upd_same, upd_same, hS _ ?_, fun p3 np3 => ?_⟩
    · show (dkeys (kkv ks)).length + (dkeys (fkvs fs)).length ≤ 1000
      rw [dkeys_len, dkeys_len, show (kkv ks).length = ks.length from List.length_map .., show (fkvs fs).length = fs.length from List.length_map ..]
      omega
    have s3 := same_new (o := .lst (dkeys (kkv ks) ++ dkeys (fkvs fs))) np3
    have s13 := (s1.trans s2).trans s3
    refine ⟨.ref q, rfl, q, _, 2, _, rfl, rfl, .inl (.inl (s13 _ _ hq)), atI_nat (j := 2) rfl, ut, _, rfl, .inl (s13 _ _ S.ud), fun p4 np4 => ?_⟩
    have s4 := same_new (o := .lst (dkeys (ukv us))) np4
    refine ⟨p3, p4, _, _, rfl, rfl, s4 _ _ upd_same, upd_same, hS _ ?_, fun p5 np5 => ?_⟩
    · show (dkeys (kkv ks) ++ dkeys (fkvs fs)).length + (dkeys (ukv us)).length ≤ 1000
      rw [List.length_append, dkeys_len, dkeys_len, dkeys_len, show (kkv ks).length = ks.length from List.length_map .., show (fkvs fs).length = fs.length from List.length_map .., show (ukv us).length = us.length from List.length_map ..]
      omega
    have s5 := same_new (o := .lst (dkeys (kkv ks) ++ dkeys (fkvs fs) ++ dkeys (ukv us))) np5
    have el : dkeys (kkv ks) ++ dkeys (fkvs fs) ++ dkeys (ukv us) = (ks.map (·.nm) ++ fs.map (·.nm) ++ us.map (·.nm)).map V.str := by
      rw [dkeys_k, dkeys_f, dkeys_u, List.map_append, List.map_append]
    refine ⟨p5, ks.map (·.nm) ++ fs.map (·.nm) ++ us.map (·.nm), rfl, SqL.of ?_, ?_, fun ys p pm so np => k ys p _ pm (((s13.trans s4).trans s5).trans (same_new np)) (((s13.trans s4).trans s5).free np) upd_same⟩
    · rw [← el]
      exact upd_same
    · rw [List.length_append, List.length_append, List.length_map, List.length_map, List.length_map]
      omega
def spLmade (C : Addr) : Sp := fun vs H Q _ => ∃ (q kt ft ut : Addr) (ks : List KRow) (fs : List FRow) (us : List URow) (root : Str), vs = [.ref q] ∧ SchT H q kt ft ut ks fs us root ∧
  ∀ x H', BuiltAt C H' x ks fs us root → Same H H' → H x = none → Q (.ref x) H'
theorem ok_Lmade {f fI C : Addr} {fd fdI : FuncData} (D : Df K mg "_law_made" s_Lmade f fd ["_law_schema_here"]) (T : Nms mg) (MS : Mk K C fI) (gS : mg "Schema" = some (.ref C)) (bI : Binds K fdI ["self", "kinds", "faces", "unions", "root"] [])
    (G_init : FnOk P w K mg base CX0 9 fI fdI ["self", "kinds", "faces", "unions", "root"] (spInit C)) : FnOk P w K mg base CX0 11 f fd ["_law_schema_here"] (spLmade C) := by
  refine D.F.ok sc_Lmade (fun vs H Q E h => ?_) (fun cdv A outer s H vs Q E hr h => ?_)
  · obtain ⟨q, kt, ft, ut, ks, fs, us, root, rfl, _⟩ := h
    rfl
  · obtain ⟨q, kt, ft, ut, ks, fs, us, root, rfl, ⟨hq, S, ok⟩, k⟩ := h
    refine ⟨_, (pss_one (ps_ret (pe_make MS G_init (hr.mono (by decide)) (by rfl) gS bI .nil pass0 (pa_cons (pe_callTy call_dictD (by rfl) T.n_dict (by decide +kernel) (pa_cons (pe_ix (ix_tupK K) (pv 0) pe_int (fun _ _ => rfl)) pa_nil)) (pa_cons (pe_callTy call_dictD (by rfl) T.n_dict (by decide +kernel) (pa_cons (pe_ix (ix_tupK K) (pv 0) pe_int (fun _ _ => rfl)) pa_nil)) (pa_cons (pe_callTy call_dictD (by rfl) T.n_dict (by decide +kernel) (pa_cons (pe_ix (ix_tupK K) (pv 0) pe_int (fun _ _ => rfl)) pa_nil)) (pa_cons (pe_ix (ix_tupK K) (pv 0) pe_int (fun _ _ => rfl)) pa_nil))))))), ?_⟩
    refine ⟨.ref q, rfl, q, _, 0, _, rfl, rfl, .inl (.inl hq), atI_nat (j := 0) rfl, kt, _, rfl, .inl S.kd, fun p1 np1 => ?_⟩
    have s1 := same_new (o := .dK (kkv ks)) np1
    refine ⟨.ref q, rfl, q, _, 1, _, rfl, rfl, .inl (.inl (s1 _ _ hq)), atI_nat (j := 1) rfl, ft, _, rfl, .inl (s1 _ _ S.fd), fun p2 np2 => ?_⟩
    have s2 := same_new (o := .dK (fkvs fs)) np2
    have s12 := s1.trans s2
    refine ⟨.ref q, rfl, q, _, 2, _, rfl, rfl, .inl (.inl (s12 _ _ hq)), atI_nat (j := 2) rfl, ut, _, rfl, .inl (s12 _ _ S.ud), fun p3 np3 => ?_⟩
    have s3 := same_new (o := .dK (ukv us)) np3
    have s13 := s12.trans s3
    have e1 := (s2.trans s3) _ _ (upd_same (H := H) (a := p1) (o := .dK (kkv ks)))
    have e2 := s3 _ _ (upd_same (H := upd H p1 (.dK (kkv ks))) (a := p2) (o := .dK (fkvs fs)))
    have e3 := upd_same (H := upd (upd H p1 (.dK (kkv ks))) p2 (.dK (fkvs fs))) (a := p3) (o := .dK (ukv us))
    refine ⟨.ref q, rfl, q, _, 3, _, rfl, rfl, .inl (.inl (s13 _ _ hq)), atI_nat (j := 3) rfl, ?_⟩
    intro x dx nx ndx nex
    have S3 := S.same s13
    have s4 : Same H (upd (upd (upd (upd (upd H p1 (.dK (kkv ks))) p2 (.dK (fkvs fs))) p3 (.dK (ukv us))) dx (.own x)) x (.ins C dx [])) := fun b o e => by
      have e' := s13 _ _ e
      rw [upd_ne (ne_of_none e' nx), upd_ne (ne_of_none e' ndx)]
      exact e'
    have s34 : Same (upd (upd (upd H p1 (.dK (kkv ks))) p2 (.dK (fkvs fs))) p3 (.dK (ukv us))) (upd (upd (upd (upd (upd H p1 (.dK (kkv ks))) p2 (.dK (fkvs fs))) p3 (.dK (ukv us))) dx (.own x)) x (.ins C dx [])) := fun b o e => by
      rw [upd_ne (ne_of_none e nx), upd_ne (ne_of_none e ndx)]
      exact e
    refine ⟨x, dx, p1, p2, p3, ks, fs, us, root, rfl, upd_same, ⟨s34 _ _ e1, s34 _ _ e2, s34 _ _ e3, fun k m => (S.ka k m).same s4, fun f m => (S.fa f m).same s4, fun u m => s4 _ _ (S.ua u m)⟩, ok, fun H' g bt => ⟨rfl, k x H' bt (fun b o e => ?_) (s13.free nx)⟩⟩
    exact g _ _ (ne_of_none (s13 _ _ e) nx) (s4 _ _ e)
end
end NW
namespace NW
open PySem PySem.Spec PyProof.Rows L2
/-! ### a method that may raise -/
section
variable {X : Cx} {CX : CXT} {k : Nat} {C f : Addr} {m : Str} {fd : FuncData} {ps : List Str} {sp : Sp} {E : L2.St → XK} {o e : Expr} {es : List Expr} {ta : TE} {t : TA} {apos pos : Pos} {pl : Sem Bool}
def tMethX (C : Addr) (m : Str) (sp : Sp) (E : L2.St → XK) (ta : TE) (t : TA) : TE := fun σ H Q => ta σ H fun x H1 => ∃ a dx fs, x = .ref a ∧ H1 a = some (.ins C dx fs) ∧ fs.lookup m = none ∧ t σ H1 fun vs H2 => sp (.ref a :: vs) H2 Q (E σ)
theorem pe_methX (he : PE X o ta) (c : Cls X.K C) (hm : Meth X.K C m f) (F : FnOk X.prog X.w X.K X.mg X.base CX k f fd ps sp) (hr : Room k X.A) (hb : Binds X.K fd ps []) (hx : ∀ σ, PassesAt CX X σ (E σ)) (ha : PA X (e :: es) t)
    (hst : starEach (e :: es) X.env = (false, eval e X.env) :: starEach es X.env := by rfl) (hpl : (backTo pos (starEach es X.env)).any (·.1) = false := by rfl)
    (ht : eval (.Call (.Attribute o m apos) (e :: es) [] pos) X.env = (do
      let held ← eval o X.env
      standAt apos.atName
      let (f, first) ← holding [held] (getMethod held m pl)
      callWith pos f first (backTo pos (starEach (e :: es) X.env)) (backToKw pos (keywordEach [] X.env))) := by rfl) :
    PE X (.Call (.Attribute o m apos) (e :: es) [] pos) (tMethX C m sp E ta t) := by
  refine ⟨fun pins s σ H Q I h => ?_⟩
  refine PySem.W.methodCall_KW (pl := pl) (thn (he.run pins s σ H _ I h) fun u s1 ⟨x, H1, I1, rx, a, dx, fs, ex, ea, l, q⟩ => ?_) ht
  subst ex
  cases rx
  refine getmeth_ok I1 ea c hm l ?_
  refine PySem.W.callWith_K (first := [.ref a]) (h₀ := X.base) I.ok.mod.kin hm.kp (thn (ha.run pos pins s1 σ H1 _ I1 q) fun us s2 ⟨vs, H2, I2, r, q2⟩ => ⟨I2.kIn, ?_⟩) hst hpl
  exact run_fnS (us := .ref a :: us) (vs := .ref a :: vs) F hr hb (hx σ) I2 (.cons rfl r) q2
end
/-- nothing is let out where nothing is promised of it -/
theorem passX0 {P : Program} {w : World} {X : Cx} : Passes (L2.CX P w) X E0 := fun _ _ _ _ _ _ _ h => by
  obtain ⟨_, _, _, _, _, _, _, _, _, _, _, _, z⟩ := h
  exact z.elim
/-! ### isinstance of a caught error that has fields -/
def rIsX (K : PySem.W.Frag) (C a : Addr) (cls : Value) (d : Option Addr) : List V → Hp → VK → Prop := fun xs H Q => ∃ (c : V) (cv : Value) (b : Bool) (dd : Addr) (fs : List (Str × V)), xs = [.ref a, c] ∧ cls = .ref C ∧ d = some dd ∧ H dd = some (.xd fs) ∧ (∀ u, RelV c u → u = cv) ∧
  PySem.W.kitOne K (.ref C) cv = some b ∧ Q (.bl b) H
theorem call_isX {X : Cx} {a C : Addr} {oe : Obj} {cls : Value} {d : Option Addr} {pn : List (Addr × Obj)} (T : ExcC X.K C) (hz : Zc cls d oe) (hf : ∃ vs, oe.data = .fields vs) : CallR (X.suite a ((a, oe) :: pn)) (.builtin "isinstance") (rIsX X.K C a cls d) := by
  intro pins s σ H xs us Q I r h
  obtain ⟨c, cv, b, dd, fs, rfl, rfl, rfl, hd, hcv, e, q⟩ := h
  cases r with
  | cons rx rr =>
    cases rr with
    | cons rt rr =>
      cases rr
      cases rx
      have ec := hcv _ rt
      subst ec
      obtain ⟨hget, _⟩ := I.pin (a, oe) (List.mem_append.mpr (.inl List.mem_cons_self))
      obtain ⟨vs, hv⟩ := hf
      have hx : ObjOk X.prog X.w H s.heap dd (.xd fs) := I.hok dd _ hd
      obtain ⟨mA, hns, hr⟩ := hx
      obtain ⟨od, ho, hl⟩ := lookIn_ns hns
      have J : PySem.W.InstAt s.heap a oe C (some od) := ⟨hget, hz.1, by unfold PySem.W.notCls; rw [hv] <;> rfl, by rw [hz.2]; exact ho⟩
      obtain ⟨cd, hcl, _⟩ := PySem.W.any_some T.hd
      exact PySem.W.kia_one (PySem.W.kitx_exc (by rw [hcl]; rfl) T.hg T.hk T.hs T.ha T.hn T.ht T.hm) I.kIn J e (fun z => nomatch z) fun tk => ⟨.bl b, H, I.kept (t' := tk) fun _ _ z => z, rfl, q⟩
end NW
namespace NW
open PySem PySem.Spec PyProof.Rows L2
section
variable {X : Cx} {CY : CXT} {cls : Str} {C fI : Addr} {n : Nat} {dat : FuncData} {pars : List Str} {prom : Sp} {a0 : Expr} {as : List Expr} {tas : TA} {np cp : Pos}
/-- C(e, ..) made for a raise, where no exception is handled; what is made has no context -/
theorem pmkN (T : OexC X.K C) (hI : PySem.W.findIn X.K (.ref C) "__init__" = some (some (.ref fI))) (hT : PySem.W.typeIn X.K (.ref fI) = some (.type "function")) (G : FnOk X.prog X.w X.K X.mg X.base CY n fI dat pars prom)
    (room : Room (n + 1) X.A) (bi : Binds X.K dat pars []) (ps0 : Passes CY X (fun _ _ _ => False)) (gl : L2.Gl X cls) (mgC : X.mg cls = some (.ref C)) (pas : PA X (a0 :: as) tas) (nd : (cls == ("__debug__" : Str)) = false := by decide)
    (st : starEach (a0 :: as) X.env = (false, eval a0 X.env) :: starEach as X.env := by rfl) (pl : (backTo cp (starEach as X.env)).any (·.1) = false := by rfl) : L2N.PMk X (.Call (.Name cls np) (a0 :: as) [] cp) (tMkO C prom [] tas) := by
  intro pins s σ H Q I reading
  obtain ⟨_, _, _, _, bm, _, _, _, _, _, _, _, _, _, _, hC, inB⟩ := T.cls
  refine wpAny_Call_Name_kw (ld_glob I gl mgC (PySem.W.callWith_K (h₀ := X.base) I.ok.mod.kin T.kC (thn (pas.run cp pins s σ H _ I reading) fun us s1 ⟨vs, H1, J1, rs, few, made⟩ => ⟨J1.kIn, ?_⟩) st pl) nd)
  show wpAny _ _ (call (.ref C) us) _ _ _
  obtain ⟨h1, gs, drw, tks, sys⟩ := s1
  -- where the new exception stands
  generalize hat : h1.objs.size + 1 = new at *
  have ge1 : h1.objs.size ≤ new := by omega
  have promised := made new (J1.hok.fresh ge1)
  rw [List.append_nil] at promised
  generalize hG2 : (h1.push (PySem.W.kdv_tup us)).push (PySem.HandSPX.excO C h1.objs.size) = h2 at *
  have kept : ∀ b o, h1.get? b = some o → h2.get? b = some o := fun b o e => by rw [← hG2]; exact Heap.get?_push_of_some _ (Heap.get?_push_of_some _ e)
  have there : h2.get? new = some (PySem.HandSPX.excO C h1.objs.size) := by
    rw [← hG2, ← hat]
    heap_get
  have J2 : Inv X pins σ (upd H1 new (exo new C none)) ⟨h2, gs, drw, tks, sys⟩ := J1.laid (t' := tks) kept ge1 (exo_ok there)
  have rs2 : Vals (V.ref new :: vs) (Value.ref new :: us) := .cons rfl rs
  have len2 : (Value.ref new :: us).length = pars.length := by rw [← rs2.length]; exact G.len _ _ _ _ promised
  have bnd := bi _ (Value.ref new :: us) J2.kIn (by rw [List.append_nil]; exact len2)
  rw [List.append_nil] at bnd
  have lus : us.length ≤ sizeLine := by rw [← rs.length, sizeLine_eq]; omega
  refine wpAny_call (PySem.HandSPX.call_own F.excBase_ValueError (fun Y => PySem.HandSPX.refsVE_contains Y bm inB) (J1.kIn _ _ hC) (PySem.W.looks_findIn J1.kIn hI) (fun self => PySem.W.bind_fn J1.kIn self hT) lus ?_)
  rw [hG2, hat]
  refine codeAny_mono (G.run _ X.stack _ _ ⟨Value.ref new :: us, []⟩ _ _ _ (fun _ _ _ => False) (room.make C us []) (J2.env0.make C us []) bnd rs2 promised) fun res s' done => ?_
  cases res with
  | error er => exact ps0 pins σ _ _ er s' J2 done
  | ok fl =>
    cases fl with
    | ret u =>
      obtain ⟨v, H2, os2, bare2, un2, hok2, rv, ev, d, fs, ea, ed, hd1, q2⟩ := done
      subst ev
      obtain ⟨h3, gs3, drw3, tks3, sys3⟩ := s'
      obtain ⟨t0, G3, J, kG, ge, hoe, na⟩ := mk_end0 (d2 := drw3) (t2 := tks3) J1 ge1 kept un2 hok2 os2 bare2 ea ed hd1
      exact ⟨rv, new, _, _, ⟨G3, gs3, drw3, tks3, sys3⟩, _, .ref C, some d, rfl, J, kG, ge, hoe, ⟨rfl, rfl, fun ws e => by cases e; rfl⟩, rfl, rfl, na, rfl, bare2, raises_own T.exC T.tyC, q2⟩
    | next => exact done.elim
    | brk => exact done.elim
    | cont => exact done.elim
end
section
variable {P : Program} {w : World} {K : PySem.W.Frag} {mg : Str → Option Value} {base : Heap} {CY : CXT} {nm qn : Str} {d0 : Stmt} {fa : Addr} {dat : FuncData} {NN pars : List Str} {n : Nat} {prom : Sp}
/-- a def of the text, whatever is said of what it lets out -/
theorem okC (G : Fun K nm qn d0 fa dat) (S : FnScope NN pars (defScope d0)) (ln : ∀ vs H Q E, prom vs H Q E → vs.length = pars.length)
    (go : ∀ cdv A outer s H vs Q E, Room n (A.deeper (envOfC qn (defScope d0) s.heap.objs.size fa cdv)) → prom vs H Q E → ∃ t, PSs (cxOf CY P w K mg base NN qn (defScope d0) fa cdv A outer s H E) (defBody d0) t ∧ t { nx := fun _ H' => Q .non H', rt := Q } (start NN vs) H) :
    FnOk P w K mg base CY (n + 1) fa dat pars prom := by
  obtain ⟨_, _, _, _, _, _, cdv, _, _, rfl, lk, ci⟩ := G.ex
  exact fn_of lk ci S ln (go cdv)
/-- a def of the text that is called while an exception is handled -/
theorem okH (G : Fun K nm qn d0 fa dat) (S : FnScope NN pars (defScope d0)) (ln : ∀ vs H Q E, prom vs H Q E → vs.length = pars.length)
    (go : ∀ cdv A outer s H vs Q E p, L2H.Hot1 A p → L2H.RoomH n (A.deeper (envOfC qn (defScope d0) s.heap.objs.size fa cdv)) → prom vs H Q E → ∃ t, PSs (L2H.cxH CY P w K mg base NN qn (defScope d0) fa cdv A outer s H E p) (defBody d0) t ∧ t { nx := fun _ H' => Q .non H', rt := Q } (start NN vs) H) :
    L2H.FnH P w K mg base CY (n + 1) fa dat pars prom := by
  obtain ⟨_, _, _, _, _, _, cdv, _, _, rfl, lk, ci⟩ := G.ex
  exact L2H.fn_ofH lk ci S ln (go cdv)
end
end NW
namespace NW
open PySem PySem.Spec PyProof.Rows L2
open TL (tl)
open StX (pa_star)
abbrev s_NoBase_init : Stmt := inClass (topS 4) 0
abbrev N_NoBase_init : List Str := ["self", "base"]
theorem sc_NoBase_init : FnScope N_NoBase_init ["self", "base"] (defScope s_NoBase_init) := ⟨rfl, rfl, rfl, by decide +kernel, rfl, by decide +kernel, by decide +kernel⟩
abbrev s_Schema_shapes_at : Stmt := inClass (topS 35) 8
abbrev N_Schema_shapes_at : List Str := ["self", "base"]
theorem sc_Schema_shapes_at : FnScope N_Schema_shapes_at ["self", "base"] (defScope s_Schema_shapes_at) := ⟨rfl, rfl, rfl, by decide +kernel, rfl, by decide +kernel, by decide +kernel⟩
/-- the class of errors for what is no base -/
structure NoB (K : PySem.W.Frag) (mg : Str → Option Value) (C fI : Addr) : Prop where
  T : OexC K C
  iC : PySem.W.findIn K (.ref C) "__init__" = some (some (.ref fI))
  tI : PySem.W.typeIn K (.ref fI) = some (.type "function")
  g : mg "NoBase" = some (.ref C)
  no : PySem.W.findIn K (.ref C) "base" = some none
section
variable {P : Program} {w : World} {K : PySem.W.Frag} {mg : Str → Option Value} {base : Heap}

def spNB (C : Addr) : Sp := fun vs H Q _ => ∃ (a : Addr) (y : V), vs = [.ref a, y] ∧ H a = some (exo a C none) ∧ ∀ dx, H dx = none → dx ≠ a → Q .non (upd (upd H dx (exd dx [("base", y)])) a (exo a C (some dx)))
theorem ok_NB {f C : Addr} {fd : FuncData} (F : Fun K "__init__" "NoBase.__init__" s_NoBase_init f fd) (N : NoB K mg C f) : FnOk P w K mg base CX0 1 f fd ["self", "base"] (spNB C) := by
  refine F.ok sc_NoBase_init (fun vs H Q E h => ?_) (fun cdv A outer s H vs Q E hr h => ?_)
  · obtain ⟨a, y, rfl, _⟩ := h
    rfl
  · obtain ⟨a, y, rfl, ha, q⟩ := h
    refine ⟨_, (pss_one (ps_ost (pv 0) (pv 1))), ?_⟩
    exact ⟨y, rfl, .ref a, rfl, a, C, rfl, N.T, N.no, .inl ⟨ha, q⟩⟩
/-- the fields that a base has -/
def FdsOf (ks : List KRow) (fs : List FRow) (z : Str) (fds : List Fld) : Prop :=
  (∃ k ∈ ks, k.nm = z ∧ fds = k.fds) ∨ (z ∉ ks.map (·.nm) ∧ ∃ f ∈ fs, f.nm = z ∧ fds = f.fds) ∨ (z ∉ ks.map (·.nm) ∧ z ∉ fs.map (·.nm) ∧ fds = [])
def spShapes (K : PySem.W.Frag) (C CN : Addr) : Sp := fun vs H Q E => ∃ (x : Addr) (y : V) (ks : List KRow) (fs : List FRow) (us : List URow) (root : Str), vs = [.ref x, y] ∧ BuiltAt C H x ks fs us root ∧ SchOk ks fs us root ∧
  ((∃ z, y = .str z ∧ z ∈ bsOf ks fs us ∧ ∀ (fds : List Fld) p H', FdsOf ks fs z fds → (∀ f ∈ fds, ShAt H' f.2.1 f.2.2) → Same H H' → H p = none → H' p = some (.dK (fkv fds)) → Q (.ref p) H') ∨
    (((∃ z, y = .str z ∧ z ∉ bsOf ks fs us) ∨ ∃ t, TyX K H y t ∧ PySem.W.kitOne K t (.type "str") = some false) ∧ ∀ d H', Same H H' → H d = none → H' d = some (.xd [("base", y)]) → E (.ref CN) (some d) H'))
theorem ok_shapes_at {f f1 f2 C CN : Addr} {fd fd1 fd2 : FuncData} (F : Fun K "shapes_at" "Schema.shapes_at" s_Schema_shapes_at f fd) (mC : InM K C f1) (bC : Binds K fd1 ["self", "base"] []) (G_contains : FnOk P w K mg base CX0 2 f1 fd1 ["self", "base"] (spContains K C))
    (NN : NoB K mg CN f2) (bN : Binds K fd2 ["self", "base"] []) (G_NB : FnOk P w K mg base CX0 1 f2 fd2 ["self", "base"] (spNB CN)) (T : Nms mg) (L : ClT K C) : FnOk P w K mg base (L2N.CX P w) 4 f fd ["self", "base"] (spShapes K C CN) := by
  have TN := NN.T
  have iC := NN.iC
  have tI := NN.tI
  have gN := NN.g
  refine okC F sc_Schema_shapes_at (fun vs H Q E h => ?_) (fun cdv A outer s H vs Q E hr h => ?_)
  · obtain ⟨x, y, ks, fs, us, root, rfl, _⟩ := h
    rfl
  · obtain ⟨x, y, ks, fs, us, root, rfl, Bt, ok, q⟩ := h
    have hu := hu_of hr
    refine ⟨_, (pss_cons (ps_if (pt_cmpR (op_notIn_own mC G_contains (hr.mono (by decide)) bC .nil pass0) (pv 1) (pv 0) (by rfl))
       (pss_one (L2N.ps_raise rfl (L2N.takes_of rfl rfl rfl rfl) (pmkN TN iC tI G_NB (hr.mono (by decide)) bN pass0 (by rfl) gN (pa_cons (pv 1) pa_nil))))
       pss_nil)
      (PSs.nox (pss_cons (ps_if (pt_cmp (pc_din hu (pv 1) (pe_fld (pv 0) rfl)) rfl)
       (pss_one (ps_ret (pe_callTy call_dictD (by rfl) T.n_dict (by decide +kernel) (pa_cons (pe_ix ix_tup (pe_dget hu (pe_fld (pv 0) rfl) (pv 1) (fun _ _ => rfl)) pe_int (fun _ _ => rfl)) pa_nil))))
       pss_nil)
      (pss_cons (ps_if (pt_cmp (pc_din hu (pv 1) (pe_fld (pv 0) rfl)) rfl)
       (pss_one (ps_ret (pe_callTy call_dictD (by rfl) T.n_dict (by decide +kernel) (pa_cons (pe_dget hu (pe_fld (pv 0) rfl) (pv 1) (fun _ _ => rfl)) pa_nil))))
       pss_nil)
      (pss_one (ps_ret pe_dnewK)))))), ?_⟩
    have k1 := ok.k1
    have f1' := ok.f1
    have u1 := ok.u1
    have Bt' := Bt
    obtain ⟨dx0, kt, ft, ut, ks', fs', us', hx, S, rk, rf, ru⟩ := Bt'
    obtain ⟨e1, e2, e3⟩ := Bt.names ks' fs' us' rk rf ru
    have bad : ∀ H1, Same H H1 → (∀ d H', Same H H' → H d = none → H' d = some (.xd [("base", y)]) → E (.ref CN) (some d) H') → ∀ a, H1 a = none → spNB CN ([.ref a, y]) (upd H1 a (exo a CN none)) (fun v H2 => v = .non ∧ ∃ (d : Addr) (fs : List (Str × V)), H2 a = some (exo a CN (some d)) ∧ H2 d = some (exd d fs) ∧ H1 d = none ∧ E (.ref CN) (some d) (upd (del H2 a) d (.xd fs))) E0 := by
      intro H1 s1 k a na
      refine ⟨a, y, rfl, upd_same, fun d nd nda => ⟨rfl, d, [("base", y)], upd_same, by rw [upd_ne nda, upd_same], ?_, ?_⟩⟩
      · rw [upd_ne nda] at nd
        exact nd
      · rw [upd_ne nda] at nd
        refine k d _ (fun b o e => ?_) (s1.free nd) upd_same
        have eb := s1 _ _ e
        have nbd : b ≠ d := ne_of_none eb nd
        have nba : b ≠ a := ne_of_none eb na
        rw [upd_ne nbd, del_ne nba, upd_ne nba, upd_ne nbd, upd_ne nba]
        exact eb
    rcases q with ⟨z, rfl, hz, q⟩ | ⟨hbad, q⟩
    · refine ⟨.str z, rfl, .ref x, rfl, x, dx0, _, rfl, hx, x, .str z, ks, fs, us, root, rfl, Bt, k1, f1', u1, .inl ⟨z, rfl, fun H1 s1 => ⟨_, rfl, _, rfl, ?_⟩⟩⟩
      rw [decide_eq_true hz]
      refine iteF ?_
      have hx1 := s1 _ _ hx
      have S1 := S.same s1
      refine ⟨.str z, rfl, .ref x, rfl, x, C, dx0, _, _, rfl, hx1, L.cl, L.nk, lkk .., kt, _, rfl, .inl ⟨kkv ks', .inr z, .inl S1.kd, rfl, rfl⟩, _, rfl, ?_⟩
      have ndk : (ks'.map (·.nm)).Nodup := by rw [e1]; exact ok.ndk
      have ndf : (fs'.map (·.nm)).Nodup := by rw [e2]; exact ok.ndf
      by_cases hk : z ∈ ks.map (·.nm)
      · obtain ⟨k', km', en⟩ := List.mem_map.mp (show z ∈ ks'.map (·.nm) by rw [e1]; exact hk)
        subst en
        rw [kkv_val ndk km']
        obtain ⟨i, hi, ei⟩ := List.getElem_of_mem km'
        have hi2 : i < ks.length := by rw [← rk.1]; exact hi
        obtain ⟨r1, r2, r3, r4⟩ := rk.2 i ks[i] k' (List.getElem?_eq_getElem hi2) (by rw [← ei]; exact List.getElem?_eq_getElem hi)
        have hr' := S1.ka k' km'
        refine iteT ⟨.ref x, rfl, x, C, dx0, _, _, rfl, hx1, L.cl, L.nk, lkk .., .str k'.nm, rfl, kt, _, rfl, .inl ⟨kkv ks', .inr k'.nm, .inl S1.kd, rfl, (kkv_val ndk km').symm⟩, k'.t, _, 1, _, rfl, rfl, .inl (.inl hr'.t), atI_nat (j := 1) rfl, k'.da, _, rfl, .inl hr'.d.at_, fun p np => q k'.fds p _ (.inl ⟨ks[i], List.getElem_mem hi2, r1.symm, r4⟩) (fun f m => (hr'.d.sh f m).same (same_new np)) (s1.trans (same_new np)) (s1.free np) upd_same⟩
      · have e0 : valV (kkv ks') (Sum.inr z) = none := valV_out (f := fun k : KRow => k.nm) (g := fun k => V.ref k.t) (by rw [e1]; exact hk)
        rw [e0]
        refine iteF ⟨.str z, rfl, .ref x, rfl, x, C, dx0, _, _, rfl, hx1, L.cl, L.nf, lkf .., ft, _, rfl, .inl ⟨fkvs fs', .inr z, .inl S1.fd, rfl, rfl⟩, _, rfl, ?_⟩
        by_cases hf : z ∈ fs.map (·.nm)
        · obtain ⟨f', fm', en⟩ := List.mem_map.mp (show z ∈ fs'.map (·.nm) by rw [e2]; exact hf)
          subst en
          rw [fkvs_val ndf fm']
          obtain ⟨i, hi, ei⟩ := List.getElem_of_mem fm'
          have hi2 : i < fs.length := by rw [← rf.1]; exact hi
          obtain ⟨r1, r2⟩ := rf.2 i fs[i] f' (List.getElem?_eq_getElem hi2) (by rw [← ei]; exact List.getElem?_eq_getElem hi)
          have hr' := S1.fa f' fm'
          refine iteT ⟨.ref x, rfl, x, C, dx0, _, _, rfl, hx1, L.cl, L.nf, lkf .., .str f'.nm, rfl, ft, _, rfl, .inl ⟨fkvs fs', .inr f'.nm, .inl S1.fd, rfl, (fkvs_val ndf fm').symm⟩, f'.da, _, rfl, .inl hr'.at_, fun p np => q f'.fds p _ (.inr (.inl ⟨hk, fs[i], List.getElem_mem hi2, r1.symm, r2⟩)) (fun f m => (hr'.sh f m).same (same_new np)) (s1.trans (same_new np)) (s1.free np) upd_same⟩
        · have e0' : valV (fkvs fs') (Sum.inr z) = none := valV_out (f := fun k : FRow => k.nm) (g := fun k => V.ref k.da) (by rw [e2]; exact hf)
          rw [e0']
          exact iteF fun p np => q [] p _ (.inr (.inr ⟨hk, hf, rfl⟩)) (fun _ m => nomatch m) (s1.trans (same_new np)) (s1.free np) upd_same
    · rcases hbad with ⟨z, rfl, hz⟩ | ⟨t, ht, hkt⟩
      · refine ⟨.str z, rfl, .ref x, rfl, x, dx0, _, rfl, hx, x, .str z, ks, fs, us, root, rfl, Bt, k1, f1', u1, .inl ⟨z, rfl, fun H1 s1 => ⟨_, rfl, _, rfl, ?_⟩⟩⟩
        rw [decide_eq_false hz]
        exact iteT ⟨.str z, rfl, by show 1 ≤ 1000; decide, bad H1 s1 q⟩
      · exact ⟨y, rfl, .ref x, rfl, x, dx0, _, rfl, hx, x, y, ks, fs, us, root, rfl, Bt, k1, f1', u1, .inr ⟨t, ht, hkt, fun H1 s1 => ⟨_, rfl, _, rfl, iteT ⟨y, rfl, by show 1 ≤ 1000; decide, bad H1 s1 q⟩⟩⟩⟩
end
end NW
namespace NW
open PySem PySem.Spec PyProof.Rows L2
open TL (tl)
open StX (pa_star)
abbrev s_Lstrange : Stmt := topS 48
abbrev N_Lstrange : List Str := ["_law_box_here", "_law_menu"]
theorem sc_Lstrange : FnScope N_Lstrange ["_law_box_here"] (defScope s_Lstrange) := ⟨rfl, rfl, rfl, by decide +kernel, rfl, by decide +kernel, by decide +kernel⟩
/-- a value that stays the same data: a text, or no text -/
structure Odd (K : PySem.W.Frag) (b : Addr) (H : Hp) (v : V) : Prop where
  same : ∀ H', Gr b H H' → SameV 2 H' v v
  kind : (∃ z, v = .str z) ∨ ∃ t, (∀ H', Gr b H H' → TyX K H' v t) ∧ PySem.W.kitOne K t (.type "str") = some false
section
variable {K : PySem.W.Frag} {b r : Addr} {H H0 H' : Hp}
theorem Odd.gr {v : V} (o : Odd K b H v) (g : Gr b H H') : Odd K b H' v := by
  refine ⟨fun H2 g2 => o.same H2 (g.trans g2), ?_⟩
  rcases o.kind with h | ⟨t, h, k⟩
  · exact .inl h
  · exact .inr ⟨t, fun H2 g2 => h H2 (g.trans g2), k⟩
theorem Odd.non : Odd K b H .non := ⟨fun _ _ => .inl ⟨rfl, .inl rfl⟩, .inr ⟨_, fun _ _ => .base .non, kit_ty (by decide +kernel)⟩⟩
theorem Odd.bl {x : Bool} : Odd K b H (.bl x) := ⟨fun _ _ => .inl ⟨rfl, .inr (.inl ⟨x, rfl⟩)⟩, .inr ⟨_, fun _ _ => .base (.bl x), kit_ty (by decide +kernel)⟩⟩
theorem Odd.int {x : Int} : Odd K b H (.int x) := ⟨fun _ _ => .inl ⟨rfl, .inr (.inr (.inl ⟨x, rfl⟩))⟩, .inr ⟨_, fun _ _ => .base (.int x), kit_ty (by decide +kernel)⟩⟩
theorem Odd.str {x : Str} : Odd K b H (.str x) := ⟨fun _ _ => .inl ⟨rfl, .inr (.inr (.inr ⟨x, rfl⟩))⟩, .inl ⟨x, rfl⟩⟩
theorem same_sc {a : Addr} {xs : List V} (h : H a = some (.lst xs) ∨ H a = some (.tup xs)) (hs : ∀ x ∈ xs, Sc x) (hl : xs.length ≤ 1000) : SameV 1 H (.ref a) (.ref a) := by
  refine .inr (.inl ⟨a, a, xs, xs, rfl, rfl, ?_, rfl, hl, fun i u v e1 e2 => ?_⟩)
  · rcases h with h | h
    · exact .inl ⟨h, h⟩
    · exact .inr ⟨h, h⟩
  · rw [e1] at e2
    cases e2
    exact ⟨rfl, hs u (List.mem_of_getElem? e1)⟩
theorem Odd.tup {a : Addr} {xs : List V} (h : H a = some (.tup xs)) (n : a ≠ b) (hs : ∀ x ∈ xs, Sc x) (hl : xs.length ≤ 1000) : Odd K b H (.ref a) :=
  ⟨fun H' g => (same_sc (.inr (g _ _ n h)) hs hl).up, .inr ⟨_, fun H' g => .base (.tup (g _ _ n h)), kit_ty (by decide +kernel)⟩⟩
theorem Odd.lst {a : Addr} {xs : List V} (h : H a = some (.lst xs)) (n : a ≠ b) (hs : ∀ x ∈ xs, Sc x) (hl : xs.length ≤ 1000) : Odd K b H (.ref a) :=
  ⟨fun H' g => (same_sc (.inl (g _ _ n h)) hs hl).up, .inr ⟨_, fun H' g => .base (.lst (g _ _ n h)), kit_ty (by decide +kernel)⟩⟩
theorem Odd.lol {a c : Addr} (h : H a = some (.lst [.ref c])) (n : a ≠ b) (hc : H c = some (.lst [])) (nc : c ≠ b) : Odd K b H (.ref a) :=
  ⟨fun H' g => .inr (.inl ⟨a, a, _, _, rfl, rfl, .inl ⟨g _ _ n h, g _ _ n h⟩, rfl, by show 1 ≤ 1000; decide, fun i u v e1 e2 => by
    cases i with
    | zero =>
      cases e1
      cases e2
      exact same_sc (.inl (g _ _ nc hc)) (fun _ z => nomatch z) (Nat.zero_le _)
    | succ i => cases e1⟩), .inr ⟨_, fun H' g => .base (.lst (g _ _ n h)), kit_ty (by decide +kernel)⟩⟩
theorem Odd.dict {a : Addr} {kvs : List (Key × V)} (h : H a = some (.dK kvs)) (n : a ≠ b) (hl : kvs.length ≤ 1000) (hn : (kvs.map (·.1)).Nodup) (hs : ∀ k v, (k, v) ∈ kvs → Sc v) : Odd K b H (.ref a) :=
  ⟨fun H' g => .inr (.inr ⟨a, a, kvs, kvs, rfl, rfl, g _ _ n h, g _ _ n h, rfl, hl, hn, fun k v m => ⟨valV_nd hn m, hs k v m⟩⟩), .inr ⟨_, fun H' g => .base (.dK (g _ _ n h)), kit_ty (by decide +kernel)⟩⟩
/-- what the menu holds so far -/
structure Mn (K : PySem.W.Frag) (b r : Addr) (H0 H : Hp) (l : List V) : Prop where
  g : Gr b H0 H
  B : Box H b r
  o : ∀ v ∈ l, Odd K b H v
variable {l : List V} {p : Addr} {o : HO}
theorem Mn.add (m : Mn K b r H0 H l) (np : H p = none) : Mn K b r H0 (upd H p o) l := ⟨m.g.trans (Gr.new np), m.B.new np, fun v h => (m.o v h).gr (Gr.new np)⟩
theorem Mn.cons {v : V} (m : Mn K b r H0 H l) (hv : Odd K b H v) : Mn K b r H0 H (v :: l) := ⟨m.g, m.B, fun u h => by
  rcases List.mem_cons.mp h with rfl | h
  · exact hv
  · exact m.o u h⟩
theorem Mn.tup {xs : List V} (m : Mn K b r H0 H l) (np : H p = none) (hs : ∀ x ∈ xs, Sc x) (hl : xs.length ≤ 1000) : Mn K b r H0 (upd H p (.tup xs)) (.ref p :: l) := (m.add np).cons (.tup upd_same (m.B.neb np) hs hl)
theorem Mn.lst {xs : List V} (m : Mn K b r H0 H l) (np : H p = none) (hs : ∀ x ∈ xs, Sc x) (hl : xs.length ≤ 1000) : Mn K b r H0 (upd H p (.lst xs)) (.ref p :: l) := (m.add np).cons (.lst upd_same (m.B.neb np) hs hl)
theorem Mn.lol {c : Addr} (m : Mn K b r H0 H l) (np : H p = none) (hc : H c = some (.lst [])) (nc : c ≠ b) : Mn K b r H0 (upd H p (.lst [.ref c])) (.ref p :: l) :=
  (m.add np).cons (.lol upd_same (m.B.neb np) (by rw [upd_ne (ne_of_none hc np)]; exact hc) nc)
theorem Mn.dict {kvs : List (Key × V)} (m : Mn K b r H0 H l) (np : H p = none) (hl : kvs.length ≤ 1000) (hn : (kvs.map (·.1)).Nodup) (hs : ∀ k v, (k, v) ∈ kvs → Sc v) : Mn K b r H0 (upd H p (.dK kvs)) (.ref p :: l) := (m.add np).cons (.dict upd_same (m.B.neb np) hl hn hs)
theorem upd_twice {u : HO} : upd (upd H p u) p o = upd H p o := by
  funext a
  by_cases e : a = p
  · subst e
    rw [upd_same, upd_same]
  · rw [upd_ne e, upd_ne e, upd_ne e]
theorem sc1 {z : Str} : ∀ x ∈ [V.str z], Sc x := fun x h => by
  cases List.mem_singleton.mp h
  exact .inr (.inr (.inr ⟨z, rfl⟩))
theorem sc0 : ∀ x ∈ ([] : List V), Sc x := fun _ z => nomatch z
theorem sc2 {z y : Str} : ∀ x ∈ [V.str z, V.str y], Sc x := fun x h => by
  rcases List.mem_cons.mp h with rfl | h
  · exact .inr (.inr (.inr ⟨z, rfl⟩))
  · exact sc1 x h
end
section
variable {P : Program} {w : World} {K : PySem.W.Frag} {mg : Str → Option Value} {base : Heap}
def spLstrange (K : PySem.W.Frag) : Sp := fun vs H Q _ => ∃ (b r : Addr), vs = [.ref b] ∧ Box H b r ∧ ∀ v H', Odd K b H' v → Gr b H H' → Box H' b r → Q v H'
theorem ok_Lstrange {f f1 : Addr} {fd fd1 : FuncData} (D : Df K mg "_law_strange" s_Lstrange f fd ["_law_box_here"]) (D_Ldraw : Df K mg "_law_draw" s_Ldraw f1 fd1 ["_law_box_here", "_law_many"]) (T : Nms mg) : FnOk P w K mg base CX0 2 f fd ["_law_box_here"] (spLstrange K) := by
  have G_Ldraw : FnOk P w K mg base CX0 1 f1 fd1 ["_law_box_here", "_law_many"] spLdraw := ok_Ldraw D_Ldraw T
  refine D.F.ok sc_Lstrange (fun vs H Q E h => ?_) (fun cdv A outer s H vs Q E hr h => ?_)
  · obtain ⟨b, r, rfl, _⟩ := h
    rfl
  · obtain ⟨b, r, rfl, B, q⟩ := h
    refine ⟨_, (pss_cons (ps_set (i := 1) sc_Lstrange.nd rfl (.inl rfl) (pe_lst (pa_cons pe_non (pa_cons pe_bl (pa_cons pe_bl (pa_cons pe_int (pa_cons pe_int (pa_cons pe_int (pa_cons (pe_un un_neg pe_int) (pa_cons (pe_op op_pow pe_int pe_int) (pa_cons pe_str (pa_cons pe_str (pa_cons pe_str (pa_cons pe_str (pa_cons pe_str (pa_cons pe_str pa_nil))))))))))))))))
      (pss_cons (ps_set (i := 1) sc_Lstrange.nd rfl (.inl rfl) (pe_op op_cat (pv 1) (pe_lst (pa_cons pe_str (pa_cons pe_str (pa_cons (pe_tup pa_nil) (pa_cons (pe_tup (pa_cons pe_str pa_nil)) (pa_cons (pe_lst pa_nil) (pa_cons (pe_lst (pa_cons pe_str pa_nil)) (pa_cons (pe_lst (pa_cons (pe_lst pa_nil) pa_nil)) (pa_cons pe_dnewK (pa_cons (pe_disp (pps_cons pe_str pe_int pps_nil) (by rfl) (by rfl) (fun z => by cases z) (by decide)) (pa_cons (pe_tup (pa_cons pe_str pa_nil)) (pa_cons (pe_tup (pa_cons pe_str pa_nil)) pa_nil))))))))))))))
      (pss_cons (ps_set (i := 1) sc_Lstrange.nd rfl (.inl rfl) (pe_op op_cat (pv 1) (pe_lst (pa_cons (pe_tup (pa_cons pe_str (pa_cons pe_str pa_nil))) (pa_cons pe_str pa_nil)))))
      (pss_one (ps_ret (pe_ix ix_list (pv 1) (pe_call G_Ldraw (hr.mono (by decide)) (by rfl) D_Ldraw.g D_Ldraw.F.kp D_Ldraw.b .nil pass0 (pa_cons (pv 0) (pa_cons (pe_callB call_len_seq (by rfl) T.n_len (by decide +kernel) (pa_cons (pv 1) pa_nil)) pa_nil))) (fun _ _ => rfl))))))), ?_⟩
    have hS : ∀ n : Nat, n ≤ 1000 → n ≤ sizeLine := fun n h => Nat.le_trans h (by decide)
    have m : Mn K b r H H [] := ⟨Gr.refl, B, fun _ z => nomatch z⟩
    refine ⟨1, rfl, 10, 40, rfl, rfl, ⟨by decide, by decide, by decide⟩, hS 14 (by decide), fun p1 n1 => ?_⟩
    have m1 : Mn K b r H (upd H p1 (.lst [.non, .bl true, .bl false, .int 0, .int 1, .int 7, .int (-1), .int (10 ^ (40 : Int).toNat), .str "", .str "Ab", .str "a b", .str "abcdefghi", .str "a1", .str "aB"])) [] := m.add n1
    have m0 : Mn K b r (upd H p1 (.lst [.non, .bl true, .bl false, .int 0, .int 1, .int 7, .int (-1), .int (10 ^ (40 : Int).toNat), .str "", .str "Ab", .str "a b", .str "abcdefghi", .str "a1", .str "aB"])) (upd H p1 (.lst [.non, .bl true, .bl false, .int 0, .int 1, .int 7, .int (-1), .int (10 ^ (40 : Int).toNat), .str "", .str "Ab", .str "a b", .str "abcdefghi", .str "a1", .str "aB"])) [] := ⟨Gr.refl, m1.B, fun _ z => nomatch z⟩
    have nb1 := B.neb n1
    refine ⟨.ref p1, rfl, hS 0 (by decide), fun q1 k1 => ⟨hS 1 (by decide), fun q2 k2 => ⟨hS 0 (by decide), fun q3 k3 => ⟨hS 1 (by decide), fun q4 k4 => ⟨hS 0 (by decide), fun q5 k5 => ⟨hS 1 (by decide), fun q6 k6 => fun q7 k7 => fun q8 k8 => ⟨upd_same, [(.inr "a", .int 1)], rfl, by show 1 ≤ 15; decide, ?_⟩⟩⟩⟩⟩⟩⟩
    rw [upd_twice]
    refine ⟨hS 1 (by decide), fun q9 k9 => ⟨hS 1 (by decide), fun q10 k10 => ⟨hS 11 (by decide), fun p2 n2 => ?_⟩⟩⟩
    have m2 := m0.tup (xs := []) k1 sc0 (by decide)
    have m3 := m2.tup (xs := [.str "a"]) k2 sc1 (by show 1 ≤ 1000; decide)
    have m4 := m3.lst (xs := []) k3 sc0 (by decide)
    have m5 := m4.lst (xs := [.str "a"]) k4 sc1 (by show 1 ≤ 1000; decide)
    have m6 := m5.lst (xs := []) k5 sc0 (by decide)
    have m7 := m6.lol (c := q5) k6 upd_same (m5.B.neb k5)
    have m8 := m7.dict (kvs := []) k7 (by decide) List.nodup_nil (fun _ _ z => nomatch z)
    have m9 := m8.dict (kvs := mergeK [] [(.inr "a", .int 1)]) k8 (by show 1 ≤ 1000; decide) (by show [(Sum.inr "a" : Key)].Nodup; exact List.pairwise_singleton ..) (fun k v h => by
      cases List.mem_singleton.mp (show (k, v) ∈ [((Sum.inr "a" : Key), V.int 1)] from h)
      exact .inr (.inr (.inl ⟨1, rfl⟩)))
    have m10 := m9.tup (xs := [.str "list"]) k9 sc1 (by show 1 ≤ 1000; decide)
    have m11 := m10.tup (xs := [.str "fail"]) k10 sc1 (by show 1 ≤ 1000; decide)
    have m12 := m11.add (o := .lst [.str " a", .str "a\n", .ref q1, .ref q2, .ref q3, .ref q4, .ref q6, .ref q7, .ref q8, .ref q9, .ref q10]) n2
    have e1 := m12.g p1 (.lst [.non, .bl true, .bl false, .int 0, .int 1, .int 7, .int (-1), .int (10 ^ (40 : Int).toNat), .str "", .str "Ab", .str "a b", .str "abcdefghi", .str "a1", .str "aB"]) nb1 upd_same
    refine ⟨p1, p2, [.non, .bl true, .bl false, .int 0, .int 1, .int 7, .int (-1), .int (10 ^ (40 : Int).toNat), .str "", .str "Ab", .str "a b", .str "abcdefghi", .str "a1", .str "aB"], [.str " a", .str "a\n", .ref q1, .ref q2, .ref q3, .ref q4, .ref q6, .ref q7, .ref q8, .ref q9, .ref q10], rfl, rfl, e1, upd_same, hS 25 (by decide), fun p3 n3 => ?_⟩
    have m13 := m12.add (o := .lst ([.non, .bl true, .bl false, .int 0, .int 1, .int 7, .int (-1), .int (10 ^ (40 : Int).toNat), .str "", .str "Ab", .str "a b", .str "abcdefghi", .str "a1", .str "aB"] ++ [.str " a", .str "a\n", .ref q1, .ref q2, .ref q3, .ref q4, .ref q6, .ref q7, .ref q8, .ref q9, .ref q10])) n3
    have n3b := m12.B.neb n3
    refine ⟨.ref p3, rfl, hS 2 (by decide), fun q11 k11 => ⟨hS 2 (by decide), fun p4 n4 => ?_⟩⟩
    have m14 := m13.tup (xs := [.str "fail", .str "fail"]) k11 sc2 (by show 2 ≤ 1000; decide)
    have m15 := m14.add (o := .lst [.ref q11, .str "fail1"]) n4
    have e3 : (upd (upd (upd _ p3 (.lst ([.non, .bl true, .bl false, .int 0, .int 1, .int 7, .int (-1), .int (10 ^ (40 : Int).toNat), .str "", .str "Ab", .str "a b", .str "abcdefghi", .str "a1", .str "aB"] ++ [.str " a", .str "a\n", .ref q1, .ref q2, .ref q3, .ref q4, .ref q6, .ref q7, .ref q8, .ref q9, .ref q10]))) q11 (.tup [.str "fail", .str "fail"])) p4 (.lst [.ref q11, .str "fail1"])) p3 = some (.lst ([.non, .bl true, .bl false, .int 0, .int 1, .int 7, .int (-1), .int (10 ^ (40 : Int).toNat), .str "", .str "Ab", .str "a b", .str "abcdefghi", .str "a1", .str "aB"] ++ [.str " a", .str "a\n", .ref q1, .ref q2, .ref q3, .ref q4, .ref q6, .ref q7, .ref q8, .ref q9, .ref q10])) := ((Gr.new (b := b) k11).trans (Gr.new n4)) _ _ n3b upd_same
    refine ⟨p3, p4, [.non, .bl true, .bl false, .int 0, .int 1, .int 7, .int (-1), .int (10 ^ (40 : Int).toNat), .str "", .str "Ab", .str "a b", .str "abcdefghi", .str "a1", .str "aB"] ++ [.str " a", .str "a\n", .ref q1, .ref q2, .ref q3, .ref q4, .ref q6, .ref q7, .ref q8, .ref q9, .ref q10], [.ref q11, .str "fail1"], rfl, rfl, e3, upd_same, hS _ (by show 27 ≤ 1000; decide), fun p5 n5 => ?_⟩
    have m := m15.add (o := .lst ([.non, .bl true, .bl false, .int 0, .int 1, .int 7, .int (-1), .int (10 ^ (40 : Int).toNat), .str "", .str "Ab", .str "a b", .str "abcdefghi", .str "a1", .str "aB"] ++ [.str " a", .str "a\n", .ref q1, .ref q2, .ref q3, .ref q4, .ref q6, .ref q7, .ref q8, .ref q9, .ref q10] ++ [.ref q11, .str "fail1"])) n5
    have n5b := m15.B.neb n5
    have all : ∀ v ∈ ([.non, .bl true, .bl false, .int 0, .int 1, .int 7, .int (-1), .int (10 ^ (40 : Int).toNat), .str "", .str "Ab", .str "a b", .str "abcdefghi", .str "a1", .str "aB"] ++ [.str " a", .str "a\n", .ref q1, .ref q2, .ref q3, .ref q4, .ref q6, .ref q7, .ref q8, .ref q9, .ref q10] ++ [.ref q11, .str "fail1"] : List V), Odd K b _ v := (List.forall_mem_cons.mpr ⟨Odd.non, (List.forall_mem_cons.mpr ⟨Odd.bl, (List.forall_mem_cons.mpr ⟨Odd.bl, (List.forall_mem_cons.mpr ⟨Odd.int, (List.forall_mem_cons.mpr ⟨Odd.int, (List.forall_mem_cons.mpr ⟨Odd.int, (List.forall_mem_cons.mpr ⟨Odd.int, (List.forall_mem_cons.mpr ⟨Odd.int, (List.forall_mem_cons.mpr ⟨Odd.str, (List.forall_mem_cons.mpr ⟨Odd.str, (List.forall_mem_cons.mpr ⟨Odd.str, (List.forall_mem_cons.mpr ⟨Odd.str, (List.forall_mem_cons.mpr ⟨Odd.str, (List.forall_mem_cons.mpr ⟨Odd.str, (List.forall_mem_cons.mpr ⟨Odd.str, (List.forall_mem_cons.mpr ⟨Odd.str, (List.forall_mem_cons.mpr ⟨(m.o _ (by simp)), (List.forall_mem_cons.mpr ⟨(m.o _ (by simp)), (List.forall_mem_cons.mpr ⟨(m.o _ (by simp)), (List.forall_mem_cons.mpr ⟨(m.o _ (by simp)), (List.forall_mem_cons.mpr ⟨(m.o _ (by simp)), (List.forall_mem_cons.mpr ⟨(m.o _ (by simp)), (List.forall_mem_cons.mpr ⟨(m.o _ (by simp)), (List.forall_mem_cons.mpr ⟨(m.o _ (by simp)), (List.forall_mem_cons.mpr ⟨(m.o _ (by simp)), (List.forall_mem_cons.mpr ⟨(m.o _ (by simp)), (List.forall_mem_cons.mpr ⟨Odd.str, (fun _ z => nomatch z)⟩)⟩)⟩)⟩)⟩)⟩)⟩)⟩)⟩)⟩)⟩)⟩)⟩)⟩)⟩)⟩)⟩)⟩)⟩)⟩)⟩)⟩)⟩)⟩)⟩)⟩)⟩)
    have g1 := (Gr.new (b := b) n1).trans m.g
    refine ⟨.ref p5, rfl, .ref _, rfl, .ref p5, rfl, p5, _, rfl, .inl (SqL.of upd_same), b, r, 27, rfl, m.B, by decide, by decide, fun d H1 d0 d1 g2 B1 => ?_⟩
    obtain ⟨d, rfl⟩ := Int.eq_ofNat_of_zero_le d0
    have hd : d < ([.non, .bl true, .bl false, .int 0, .int 1, .int 7, .int (-1), .int (10 ^ (40 : Int).toNat), .str "", .str "Ab", .str "a b", .str "abcdefghi", .str "a1", .str "aB"] ++ [.str " a", .str "a\n", .ref q1, .ref q2, .ref q3, .ref q4, .ref q6, .ref q7, .ref q8, .ref q9, .ref q10] ++ [.ref q11, .str "fail1"] : List V).length := by
      show d < 27
      omega
    refine ⟨p5, _, d, ([.non, .bl true, .bl false, .int 0, .int 1, .int 7, .int (-1), .int (10 ^ (40 : Int).toNat), .str "", .str "Ab", .str "a b", .str "abcdefghi", .str "a1", .str "aB"] ++ [.str " a", .str "a\n", .ref q1, .ref q2, .ref q3, .ref q4, .ref q6, .ref q7, .ref q8, .ref q9, .ref q10] ++ [.ref q11, .str "fail1"] : List V)[d], rfl, rfl, SqL.of (g2 _ _ n5b upd_same), atI_nat (List.getElem?_eq_getElem hd), ?_⟩
    exact q _ H1 ((all _ (List.getElem_mem hd)).gr g2) (g1.trans g2) B1
end
end NW
namespace NW
open PySem PySem.Spec PyProof.Rows
/-! ### a list is walked to its end while an exception is handled -/
section
variable {pr : Program} {wl : World} {Ar : Around} {Ex : Value → Shared → Prop} {s : Shared}
theorem nextEndH {it l x1 : Addr} {i : Nat} {its : Array Value} {Qn : Option Value → Shared → Prop} (hot : HotX.HotAt Ar x1 s.heap) (hit : s.heap.IsListIter it l i) (hl : s.heap.IsList l its) (none' : its[i]? = none) (ne : x1 ≠ it)
    (go : ∀ h2, (∀ b o, b ≠ it → s.heap.get? b = some o → h2.get? b = some o) → Qn none { s with heap := h2 }) : wpAny (model pr wl) Ar (pyNext (.ref it)) Qn Ex s := by
  obtain ⟨o, ho, hc, hd⟩ := id hit
  obtain ⟨ol, hol, _, nl, hdl⟩ := hl
  obtain ⟨hh, o1, vs1, h1, d1, c1⟩ := hot
  unfold pyNext
  refine wpAny_bind (wpAny_attempt (wpAny_callSpecial?_slot (name := Str.ofString "__next__") hit.typeIs slot_listiter_next (wpAny_call_entry slot_listiter_next hit.typeIs entry_listiter_next ?_ (args_listiter_next _))))
  show wpAny _ _ (do let y ← field (.ref it) 0; _) _ _ s
  refine wpAny_bind (wpAny_field ho hd (x := .ref l) rfl ?_)
  show wpAny _ _ (if (Value.ref l == Value.none) = true then _ else _) _ _ s
  rw [if_neg (show ¬ ((Value.ref l == Value.none) = true) from Bool.false_ne_true)]
  show wpAny _ _ (do let y ← field (.ref it) 1; _) _ _ s
  refine wpAny_bind (wpAny_field ho hd (x := .int i 0) rfl ?_)
  show wpAny _ _ (do let y ← seqItems? (.ref l); _) _ _ s
  refine wpAny_bind (wpAny_seqItems hol hdl ?_)
  simp only [Int.toNat_natCast, none']
  refine wpAny_bind (wpAny_rule (wpAny_bind (wpAny_setField ho hd (by simp) ?_)))
  generalize hU : s.heap.update it _ = up
  have old : ∀ b o, b ≠ it → s.heap.get? b = some o → up.get? b = some o := fun b o n e => by
    rw [← hU, Heap.get?_update_other _ _ (Ne.symm n)]
    exact e
  show wpAny _ _ (do let y ← newExc (.type "StopIteration") []; _) _ _ _
  refine wpAny_bind ?_
  simp only [newExc, newTuple]
  refine wpAny_bind (wpAny_newObj_type ?_ (by size_fits))
  refine wpAny_bind (m := firstArgMember _ _) (wpAny_of_eq (a := Value.none) (by first | rfl | (simp only [firstArgMember]; rfl)) (wpAny_newObj_type ?_ (by size_fits)))
  refine HotX.raiseNew_hot ⟨hh, o1, vs1, Heap.get?_push_of_some _ (Heap.get?_push_of_some _ (old _ _ ne h1)), d1, c1⟩ (Nat.ne_of_lt (Heap.lt_size (Heap.get?_push_of_some _ (old _ _ ne h1)))) (Heap.get?_push_size _ rfl) rfl (by first | (simp; done) | (simp; omega) | (simp only [Array.size_append]; simp; omega)) ?_
  refine wpAny_bind (wpAny_isInstance (T := "StopIteration") (b := true) ⟨_, Heap.get?_update_self _ (Heap.get?_push_size _ rfl) rfl, rfl⟩ isSubtype_stop ?_)
  refine wpAny_pure (go _ fun b o n e => ?_)
  rw [Heap.get?_update_other _ _ (Nat.ne_of_gt (Heap.lt_size (Heap.get?_push_of_some _ (old _ _ n e))))]
  exact Heap.get?_push_of_some _ (Heap.get?_push_of_some _ (old _ _ n e))
theorem walkListH {x1 I ax : Addr} {o1 : Obj} {vs1 : Array Value} (hh : Ar.handled = some (.ref x1)) (d1 : o1.data = .fields vs1) (c1 : vs1[2]? = some .none) (hne : ax ≠ I) (hx : x1 ≠ I) (its : Array Value) :
    Walks pr wl Ar I [I, ax, x1] [I] its.size (fun i v => its[i]? = some v) (fun i h => (h.IsListIter I ax i ∧ h.IsList ax its) ∧ h.get? x1 = some o1) where
  sub := fun b hb => by simp at hb; simp [hb]
  frame := fun _ _ _ st hk => ⟨⟨st.1.1.at fun o e => hk I (by simp) o e, st.1.2.at fun o e => hk ax (by simp) o e⟩, hk x1 (by simp) _ st.2⟩
  item := fun i s Q E hi st hQ => wpAny_pyNext_list_item st.1.1 st.1.2 (x := its[i]) (by simp [hi]) fun h' hit' hs' =>
    hQ _ h' s.toks (by simp [hi]) ⟨⟨hit', st.1.2.extBut hs'.extBut hne⟩, hs'.extBut x1 _ hx st.2⟩ fun b o hb e => hs'.extBut b o (fun h => hb (by simp [h])) e
  done := fun s Q E st hQ => nextEndH ⟨hh, o1, vs1, st.2, d1, c1⟩ st.1.1 st.1.2 (by simp) hx fun h' he' => hQ h' s.toks fun b o hb e => he' b o (fun h => hb (by simp [h])) e
  self := fun _ _ _ _ st hQ => wpAny_pyIter_listiter st.1.1 hQ
end
section
open L2
variable {X : Cx}
/-- all([..]) while an exception is handled -/
theorem cr_allH (hot : L2H.HotC X) : CallR X (.builtin "all") (rAll X.K) := by
  intro pins s σ H vs us Q I r h
  obtain ⟨a, bs, rfl, hs, q⟩ := h
  obtain ⟨its, rv, hl, _⟩ := I.list hs
  rw [Vals.ref1 r]
  have hb := rv.bls
  obtain ⟨x1, hh, o1, vs1, h1, d1, c1⟩ := hot.at I
  refine call_all_walk (iter_any hl.isList fun s₂ e2 st hne => ?_)
  subst e2
  have below : x1 < s.heap.objs.size := Heap.lt_size h1
  refine ⟨_, _, _, _, _, _, _, rfl, walkListH (Ar := X.A.in1) hh d1 c1 hne (Nat.ne_of_lt below) its.toArray, ⟨st, Heap.get?_push_of_some _ h1⟩, truth_bools hb, fun h' tk hk => ?_⟩
  refine ⟨.bl _, H, I.kept fun b o eo => hk b o (fun z => ?_) (Heap.get?_push_of_some _ eo), ?_, q⟩
  · obtain rfl := List.mem_singleton.mp z
    exact absurd (Heap.lt_size eo) (Nat.lt_irrefl _)
  · show Value.bool _ = Value.bool _
    rw [← L2.all_range, hb, List.size_toArray, List.length_map]
end
end NW
namespace NW
open PySem PySem.Spec PyProof.Rows L2
/-! ### a list comprehension while an exception is handled -/
abbrev blkH (X : Cx) (p : Addr × Obj) (s : Shared) (H : Hp) (scope : Scope) (ce : Env) (fp : List Addr) : Cx := { X.blk s H scope ce fp with calm := false, pn := [p] }
section
variable {X : Cx} {pins : List (Addr × Obj)} {σ : L2.St} {H : Hp} {s : Shared} {p : Addr × Obj}
theorem startH {scope : Scope} {own : List (Str × Nat)} {fp : List Addr} (I : Inv X pins σ H s) (hp : p ∈ X.pn) (ok : BlkOk X.N X.env.scope scope own) (hN : X.N.Nodup) (hfp : ∀ b ∈ fp, FpOk X pins H b ∧ b < s.heap.objs.size) :
    Inv (blkH X p s H scope (compEnvC scope (cellsFrom (s.heap.objs.size + 1) scope.names (cloFrom X.env.cells scope.names [])) s.heap.objs.size X.env) fp) [] (wipe σ (own.map (·.2))) H { s with heap := pushCells (s.heap.push { cls := .type "dict", data := .dict #[] }) scope.names } := by
  have B := block_start I ok hN hfp
  have k := B.ok
  obtain ⟨g, n, l, f, d⟩ := I.pin p (List.mem_append_left _ hp)
  refine ⟨⟨k.mod, k.kind, k.glob, k.blt, k.above, k.inj, k.has, k.cab, (fun z => Bool.noConfusion (show false = true from z)), k.frames, k.stk, k.exf, k.bs, k.bsz, k.noex, k.exfs, k.funs, k.frf⟩, B.os, B.bare, B.base, B.loc, B.cell, B.free, B.freeC, fun q hq => ?_, B.hok, B.len⟩
  obtain rfl : q = p := by simpa using (show q ∈ [p] ++ ([] : List (Addr × Obj)) from hq)
  exact ⟨pushCells_keeps _ _ _ _ (Heap.get?_push_of_some _ g), n, Nat.ne_of_lt (Heap.lt_size g), fun m => (List.mem_cons.mp (I.stkSub q.1 m)).elim l f, d⟩
theorem hotBlk {scope : Scope} {ce : Env} {fp : List Addr} (h : L2H.Hot1 X.A p) : L2H.HotC (blkH X p s H scope ce fp) := ⟨p, h, List.mem_cons_self⟩
theorem pe_lcH {elt tg iter : Expr} {ifs : List Expr} {scope : Scope} {own : List (Str × Nat)} {pos : Pos} {wi : TI} {g : TG} {tt : TT} {te : TE} (hot : L2H.Hot1 X.A p) (hp : p ∈ X.pn) (hN : X.N.Nodup) (hi : L2H.PIH X tg iter wi) (ok : BlkOk X.N X.env.scope scope own)
    (hg : ∀ s H C cl fp, PG (blkH X p s H scope (compEnvC scope cl C X.env) fp) tg g) (ht : ∀ s H C cl fp, PTs (blkH X p s H scope (compEnvC scope cl C X.env) fp) ifs tt) (he : ∀ s H C cl fp, PE (blkH X p s H scope (compEnvC scope cl C X.env) fp) elt te)
    (hs : ∀ x, foldedSetIterable iter X.env x = pure x := by intro _; rfl) : PE X (.ListComp elt [⟨tg, iter, ifs, 0⟩] scope pos) (tLc wi g tt te (own.map (·.2))) := by
  refine ⟨fun pins s σ H Q I h => ?_⟩
  rw [eval_ListComp]
  have hfree : ∀ y ∈ scope.names, y.2 = .free → ∃ c, X.env.cells.lookup y.1 = some c := fun y hy e => (ok.free y hy e).elim (fun k => I.ok.has _ (.inl k)) fun k => I.ok.has _ (.inr k)
  refine wpAny_comprehension_free rfl hs (closure_ok hfree) ok.kind (fun y hy e => by rw [ok.uniq y hy, e]) (thn (hi.run pins s σ H _ I h) fun xv s1 hx => thn hx fun itv s2 ⟨it, fp, tn, J, H2, e, I2, T, st2, f2, q⟩ => ?_)
  subst e
  refine wpAny_newObj_type (newEnv_comp ?_) (by show 0 ≤ sizeLine; decide)
  generalize hD : s2.heap.objs.size = D
  have freeD : H2 D = none := I2.hok.fresh (Nat.le_of_eq hD)
  obtain ⟨W, ⟨m0, w0⟩, turn⟩ := q D freeD
  generalize hs3 : ({ s2 with heap := s2.heap.push { cls := .type "list", data := .seq ([] : List Value).toArray } } : Shared) = s3
  have keep3 : ∀ b o, s2.heap.get? b = some o → s3.heap.get? b = some o := fun b o e => by rw [← hs3]; exact Heap.get?_push_of_some _ e
  have size3 : s3.heap.objs.size = s2.heap.objs.size + 1 := by rw [← hs3]; exact Heap.size_push ..
  have I3 : Inv X pins σ (upd H2 D (.lst [])) s3 := by
    rw [← hs3]
    refine I2.laid (t' := s2.toks) (fun b o e => Heap.get?_push_of_some _ e) (Nat.le_of_eq hD) ⟨Nat.zero_le _, [], 0, .nil, ?_⟩
    rw [← hD]
    exact Heap.get?_push_size _ rfl
  have lower : ∀ b ∈ fp, b < s2.heap.objs.size := fun b hb => (T.obj _ _ st2 b hb).elim fun o e => Heap.lt_size e.1
  have f3 : ∀ b ∈ fp, FpOk X pins (upd H2 D (.lst [])) b ∧ b < s3.heap.objs.size := fun b hb => by
    have lt := lower b hb
    refine ⟨⟨?_, (f2 b hb).2⟩, by rw [size3]; exact Nat.lt_succ_of_lt lt⟩
    rw [upd_ne (fun z => absurd (z ▸ lt) (by rw [← hD]; exact Nat.lt_irrefl _))]
    exact (f2 b hb).1
  have st3 : tn 0 s3.heap := T.keep _ _ _ st2 fun b _ o e => keep3 b o e
  have I4 := startH I3 hp ok hN f3
  have pg := hg s3 (upd H2 D (.lst [])) s3.heap.objs.size (cellsFrom (s3.heap.objs.size + 1) scope.names (cloFrom X.env.cells scope.names [])) fp
  have pt := ht s3 (upd H2 D (.lst [])) s3.heap.objs.size (cellsFrom (s3.heap.objs.size + 1) scope.names (cloFrom X.env.cells scope.names [])) fp
  have pe := he s3 (upd H2 D (.lst [])) s3.heap.objs.size (cellsFrom (s3.heap.objs.size + 1) scope.names (cloFrom X.env.cells scope.names [])) fp
  show codeAny _ _ (.compStart _ 0 (.ref it) (.ref D) (compEnvC scope (cellsFrom (s3.heap.objs.size + 1) scope.names (cloFrom X.env.cells scope.names [])) s3.heap.objs.size X.env)) (compPost (model X.prog X.w) X.A X.xe _ _ (.ref D) s3.heap.objs.size) { s3 with heap := pushCells (s3.heap.push { cls := .type "dict", data := .dict #[] }) scope.names }
  have none3 : ∀ b ∈ fp, (upd H2 D (.lst [])) b = none := fun b hb => (f3 b hb).1.1
  have away : ∀ b ∈ fp, p.1 ≠ b := fun b hb => (f3 b hb).1.2.2.2.2.2 p (List.mem_append_left _ hp)
  generalize hce : compEnvC scope (cellsFrom (s3.heap.objs.size + 1) scope.names (cloFrom X.env.cells scope.names [])) s3.heap.objs.size X.env = ce at I4 pg pt pe ⊢
  have cL : ce.locals = s3.heap.objs.size := by rw [← hce]; rfl
  generalize upd H2 D (.lst []) = H3 at I3 I4 pg pt pe w0 none3 f3
  generalize hs4 : ({ s3 with heap := pushCells (s3.heap.push { cls := .type "dict", data := .dict #[] }) scope.names } : Shared) = s4 at I4 ⊢
  have st4 : tn 0 s4.heap := T.keep _ _ _ st3 fun b _ o e => by rw [← hs4]; exact pushCells_keeps _ _ _ _ (Heap.get?_push_of_some _ e)
  have free : ∀ {σ' : L2.St} {H' : Hp} {s' : Shared}, Inv (blkH X p s3 H3 scope ce fp) [] σ' H' s' → (∀ b ∈ fp, H' b = none) → ∀ b ∈ fp, FpOk (blkH X p s3 H3 scope ce fp) [] H' b := fun {σ' H' s'} I' hn b hb =>
    ⟨hn b hb, (I'.ok.exf b hb).1, I'.ok.exfs b hb, .inl hb, fun x c e => (I'.ok.exf b hb).2 x c e, fun q hq => by
      obtain rfl : q = p := by simpa using (show q ∈ [p] ++ ([] : List (Addr × Obj)) from hq)
      exact away b hb⟩
  refine codeAny_compStart_list ?loop (T.self X.A 0 _ _ _ st4 ?loop)
  refine compLoop_any (fun n s' => ∃ i H', Inv (blkH X p s3 H3 scope ce fp) [] (wipe σ (own.map (·.2))) H' s' ∧ tn i s'.heap ∧ (∀ b ∈ fp, H' b = none) ∧ W i n H') ?_ m0 ⟨0, H3, I4, st4, none3, w0⟩
  rintro n s5 ⟨i, H5, I5, st5, n5, w5⟩
  rcases turn i n H5 w5 with ⟨stop, qq⟩ | ⟨go, Nx, hNx, step⟩
  · refine thnF (T.done (blkH X p s3 H3 scope ce fp) rfl rfl rfl (hotBlk hot) i [] s5 _ H5 (fun _ _ => False) I5 (free I5 n5) st5 stop) fun r s6 ⟨hr, I6⟩ => ?_
    subst hr
    have I7 : Inv X pins σ H5 s6 := I3.call' (ch := fp) I6.os I6.base I6.hok I6.bare fun b hb => ⟨(f3 b hb).1.2.2.2.1, (f3 b hb).1.2.1, (f3 b hb).1.2.2.2.2.1, (f3 b hb).1.2.2.2.2.2⟩
    have noC : H5 s3.heap.objs.size = none := by
      have z : H5 ce.locals = none := I6.free
      rw [cL] at z
      exact z
    obtain ⟨m, hn, _⟩ := I6.loc
    have hn : s6.heap.Ns ce.locals m := hn
    rw [cL] at hn
    refine ⟨m, hn, fun h9 sb => ?_⟩
    obtain ⟨y0, y1, y2, y3, y4, y5⟩ := I3.fpOk (Nat.le_refl _) noC
    exact ⟨.ref D, H5, I7.turned (t' := s6.toks) (fun b o hb e => (sb.2 b hb).trans e) y0 y1 y3 y4 y5, rfl, qq⟩
  · refine thnF (T.item (blkH X p s3 H3 scope ce fp) rfl rfl rfl (hotBlk hot) i [] s5 _ H5 (fun _ _ => False) I5 (free I5 n5) st5 go) fun r s6 ⟨u, hr, h6⟩ => ?_
    subst hr
    refine thnF h6 fun _ s7 ⟨x, H7, I7, r7, y7, st7, n7⟩ => ?_
    have J7 := I7.pinned (free I7 n7) (T.obj _ _ st7)
    refine thnF (pg.run _ s7 _ H7 x u _ J7 r7 (step x H7 y7)) fun _ s8 ⟨σ8, H8, I8, hw8, q8⟩ => ?_
    refine thnF (pt.run _ s8 σ8 H8 _ I8 q8) fun b s9 ⟨H9, I9, q9⟩ => ?_
    have over : ∀ {s' : Shared} {H' : Hp}, Inv (blkH X p s3 H3 scope ce fp) ([] ++ pinsAt fp s7.heap) σ8 H' s' → Nx H' → ∃ m, m < n ∧ ∃ i H', Inv (blkH X p s3 H3 scope ce fp) [] (wipe σ (own.map (·.2))) H' s' ∧ tn i s'.heap ∧ (∀ b ∈ fp, H' b = none) ∧ W i m H' := fun {s' H'} I' nx => by
      obtain ⟨m2, lt, w2⟩ := hNx H' nx
      have pinned : ∀ b ∈ fp, ∀ o, s7.heap.get? b = some o → s'.heap.get? b = some o ∧ H' b = none := fun b hb o e => (I'.pin (b, o) (List.mem_append_right _ (List.mem_append_right _ (mem_pinsAt hb e)))).elim fun z1 z2 => ⟨z1, z2.1⟩
      have len : (wipe σ (own.map (·.2))).length = σ8.length := by rw [← hw8, wipe_length]
      refine ⟨m2, lt, i + 1, H', (I'.unpinned (pins := [])).weak len (fun j v e => ?_), T.keep _ _ _ st7 fun b hb o e => (pinned b hb o e).1, fun b hb => (T.obj _ _ st7 b hb).elim fun o e => (pinned b hb o e.1).2, w2⟩
      rw [← hw8] at e
      exact (wipe_some e).1
    cases b with
    | false => exact over I9 q9
    | true => exact thnF (pe.run _ s9 σ8 H9 _ I9 q9) fun z s10 ⟨yv, H10, I10, r10, acc, at10, few, nx⟩ => app_ok (X := blkH X p s3 H3 scope ce fp) I10 at10 few r10 fun s11 I11 => over I11 nx
end
end NW
namespace NW
open PySem PySem.Spec PyProof.Rows
section
variable {pr : Program} {wl : World} {Ar : Around} {Ex : Value → Shared → Prop} {s : Shared}
/-- a dict's keys are at their end while an exception is handled -/
theorem keyEndH {it d x1 : Addr} {i n ep : Nat} {od : Obj} {es : Array DictEntry} {Qn : Option Value → Shared → Prop} (hot : HotX.HotAt Ar x1 s.heap) (hit : s.heap.IsKeyIter it d i n ep) (hod : s.heap.get? d = some od) (hdd : od.data = .dict es ep) (sz : es.size = n) (past : n ≤ i) (ne : x1 ≠ it)
    (go : ∀ h2, (∀ b o, b ≠ it → s.heap.get? b = some o → h2.get? b = some o) → Qn none { s with heap := h2 }) : wpAny (model pr wl) Ar (pyNext (.ref it)) Qn Ex s := by
  obtain ⟨o, ho, hc, hd⟩ := id hit
  obtain ⟨hh, o1, vs1, h1, d1, c1⟩ := hot
  unfold pyNext
  refine wpAny_bind (wpAny_attempt (wpAny_callSpecial?_slot (name := Str.ofString "__next__") hit.typeIs F.slot_dict_keyiterator_next (wpAny_call_entry F.slot_dict_keyiterator_next hit.typeIs F.entry_dict_keyiterator_next ?_ (F.args_dict_keyiterator_next_1 _))))
  refine wpAny_bind (wpAny_pure (wpAny_bind (wpAny_bind ?_)))
  first | refine wpAny_bind (wpAny_typeNameOfWhole_keyiter hit.typeIs (wpAny_pure (wpAny_bind (wpAny_fieldsOf ho hd ?_)))) | refine wpAny_bind (wpAny_typeNameOf_keyiter hit.typeIs (wpAny_pure (wpAny_bind (wpAny_fieldsOf ho hd ?_))))
  simp only [show Builtin.Dict_items.ownsTuple "dict_keyiterator" = false by decide, Bool.false_eq_true, if_false]
  show wpAny _ _ (if (Value.ref d == Value.none) = true then _ else _) _ _ s
  rw [if_neg (show ¬ ((Value.ref d == Value.none) = true) from fun z => Bool.false_ne_true z)]
  refine wpAny_bind (wpAny_pure (wpAny_bind (wpAny_dictEntries hod hdd ?_)))
  rw [if_neg (by rw [sz]; simp)]
  refine wpAny_bind (wpAny_pure (wpAny_bind (wpAny_dictEpoch hod hdd ?_)))
  rw [if_neg (by simp)]
  refine wpAny_pure ?_
  have past2 : es.size ≤ i := by rw [sz]; exact past
  simp only [show ¬ ((i : Int) < 0) by omega, if_false, Int.toNat_natCast, Array.getElem?_eq_none past2]
  refine wpAny_bind ?_
  first | refine wpAny_bind (wpAny_typeNameOfWhole_keyiter hit.typeIs (wpAny_pure ?_)) | refine wpAny_bind (wpAny_typeNameOf_keyiter hit.typeIs (wpAny_pure ?_))
  show wpAny _ _ (do let y ← setField (.ref it) 0 .none; _) _ _ s
  refine wpAny_bind (wpAny_setField ho hd (by simp) ?_)
  generalize hU : s.heap.update it _ = up
  have old : ∀ b o, b ≠ it → s.heap.get? b = some o → up.get? b = some o := fun b o n e => by
    rw [← hU, Heap.get?_update_other _ _ (Ne.symm n)]
    exact e
  show wpAny _ _ (do let y ← newExc (.type "StopIteration") []; _) _ _ _
  refine wpAny_bind ?_
  simp only [newExc, newTuple]
  refine wpAny_bind (wpAny_newObj_type ?_ (by size_fits))
  refine wpAny_bind (m := firstArgMember _ _) (wpAny_of_eq (a := Value.none) (by first | rfl | (simp only [firstArgMember]; rfl)) (wpAny_newObj_type ?_ (by size_fits)))
  refine HotX.raiseNew_hot ⟨hh, o1, vs1, Heap.get?_push_of_some _ (Heap.get?_push_of_some _ (old _ _ ne h1)), d1, c1⟩ (Nat.ne_of_lt (Heap.lt_size (Heap.get?_push_of_some _ (old _ _ ne h1)))) (Heap.get?_push_size _ rfl) rfl (by first | (simp; done) | (simp; omega) | (simp only [Array.size_append]; simp; omega)) ?_
  refine wpAny_bind (wpAny_isInstance (T := "StopIteration") (b := true) ⟨_, Heap.get?_update_self _ (Heap.get?_push_size _ rfl) rfl, rfl⟩ isSubtype_stop ?_)
  refine wpAny_pure (go _ fun b o n e => ?_)
  rw [Heap.get?_update_other _ _ (Nat.ne_of_gt (Heap.lt_size (Heap.get?_push_of_some _ (old _ _ n e))))]
  exact Heap.get?_push_of_some _ (Heap.get?_push_of_some _ (old _ _ n e))
end
open L2
section
variable {P : Program} {w : World} {K : PySem.W.Frag} {tg : Expr} {d : Addr} {o : Obj} {es : Array DictEntry} {ep : Nat}
theorem turn_keysH {kvs : List (Key × V)} (it : Addr) (hod : o.data = .dict es ep) : L2H.TurnH P w K tg (Itk d o kvs) [it] it (fun i h => h.IsKeyIter it d i kvs.length ep) where
  mem := (turn_keys (P := P) (w := w) (K := K) (tg := tg) (d := d) it hod (kvs := kvs)).mem
  obj := (turn_keys (P := P) (w := w) (K := K) (tg := tg) (d := d) it hod (kvs := kvs)).obj
  keep := (turn_keys (P := P) (w := w) (K := K) (tg := tg) (d := d) it hod (kvs := kvs)).keep
  item := by
    rintro X rfl rfl rfl _ i pins s σ H E I hf st ⟨hd, hi⟩
    obtain ⟨f0, f1, f2, f3, f4, f5⟩ := hf it (by simp)
    obtain ⟨hs, hgd, hx, es', ep', vs, hdt, hsz, kv, hm⟩ := I.frzK hd
    obtain ⟨rfl, rfl⟩ := dict_ep hod hdt
    have hkv := List.getElem?_eq_getElem hi
    obtain ⟨u, hu, ru⟩ := kv_get kv hkv
    rw [show kvs.length = vs.length from Paired.length kv] at st
    refine wpAny_pyNext_dict_item st hm hu fun key h' hkey st' sb => ?_
    have I1 : Inv X pins σ H { s with heap := h' } := I.turned (t' := s.toks) (fun b ob hb e => (sb.2 b hb).trans e) f0 f1 f3 f4 f5
    obtain ⟨oi, e, c, dd⟩ := id st'
    refine ⟨key, rfl, go_of (s := { s with heap := h' }) e c dd (by decide) ⟨kV kvs[i].1, H, I1, relV_key (show keyIs kvs[i].1 key = true from hkey), ⟨rfl, _, _, hkv, rfl⟩, ?_, fun b hb => (hf b hb).1⟩⟩
    show h'.IsKeyIter it d (i + 1) kvs.length _
    rw [show kvs.length = vs.length from Paired.length kv]
    exact st'
  done := by
    rintro X rfl rfl rfl hot i pins s σ H E I hf st ⟨hd, hi⟩
    obtain ⟨f0, f1, f2, f3, f4, f5⟩ := hf it (by simp)
    obtain ⟨hs, hgd, hx, es', ep', vs, hdt, hsz, kv, hm⟩ := I.frzK hd
    obtain ⟨rfl, rfl⟩ := dict_ep hod hdt
    obtain ⟨q, ⟨hh, v1, e1, c1⟩, hq⟩ := hot
    have hot' : HotX.HotAt X.A q.1 s.heap := ⟨hh, q.2, v1, (I.pin q (List.mem_append_left _ hq)).1, e1, c1⟩
    exact keyEndH hot' st hgd hdt hsz hi (f5 q (List.mem_append_left _ hq)) fun h' eb => ⟨rfl, I.turned (t' := s.toks) (fun b ob hb e => eb b ob hb e) f0 f1 f3 f4 f5⟩
  self := (turn_keys (P := P) (w := w) (K := K) (tg := tg) (d := d) it hod (kvs := kvs)).self
end
section
variable {X : Cx} {tg e : Expr} {td : TE}
/-- the keys of a dict (with keys texts and ints) -/
def iKeysH (td : TE) : TI := fun σ H R => td σ H fun x H1 => ∃ d o kvs, x = .ref d ∧ H1 d = some (.frz o (.dK kvs)) ∧ R (Itk d o kvs) H1
theorem pi_keysH (he : PE X e td) : L2H.PIH X tg e (iKeysH td) := by
  refine ⟨fun pins s σ H R I h => ?_⟩
  refine thn (he.run pins s σ H _ I h) fun u s1 ⟨x, H1, I1, rx, d, o, kvs, ex, hd, q⟩ => ?_
  subst ex
  obtain rfl : u = Value.ref d := rx
  obtain ⟨hs, hgd, hx, es, ep, vs, hdt, hsz, kv, hm⟩ := I1.frzK hd
  refine iter_keys hs hgd hx hdt ⟨s1.heap.objs.size, [s1.heap.objs.size], _, _, H1, rfl, I1.kept (t' := s1.toks) fun b ob e => Heap.get?_push_of_some _ e, turn_keysH _ hdt, ⟨_, Heap.get?_push_size _ rfl, rfl, ?_⟩, fun b hb => ?_, q⟩
  · rw [hsz] <;> rfl
  · obtain rfl : b = s1.heap.objs.size := by simpa using hb
    exact I1.fpOk (Nat.le_refl _) (I1.hok.fresh (Nat.le_refl _))
end
end NW
namespace NW
open PySem PySem.Spec PyProof.Rows L2
open TL (tl)
open StX (pa_star)
section
variable {P : Program} {w : World} {K : PySem.W.Frag} {mg : Str → Option Value} {base : Heap}
theorem ok_LsameH {f : Addr} {fd : FuncData} (D_Lsame : Df K mg "_law_same" s_Lsame f fd ["_law_one", "_law_other"]) (T : Nms mg) : ∀ n : Nat, L2H.FnH P w K mg base CX0 (n + 1) f fd ["_law_one", "_law_other"] (spLsame n) := by
  intro n
  induction n with
  | zero =>
    refine okH D_Lsame.F sc_Lsame (fun vs H Q E h => ?_) (fun cdv A outer s H vs Q E p hot hr h => ?_)
    · obtain ⟨x, y, rfl, _⟩ := h
      rfl
    · obtain ⟨x, y, rfl, h, q⟩ := h
      refine ⟨_, (pss_cons (ps_if (pt_val (pe_callB call_isi (by rfl) T.n_isinstance (by decide +kernel) (pa_cons (pv 1) (pa_cons (pe_bltn (v := .ty "dict") (by rfl) T.n_dict (by decide +kernel) rfl) pa_nil)))) (pss_cons ps_never (pss_cons ps_never (pss_one ps_never))) pss_nil)
      (pss_cons (ps_if (PW.pt (pw_or (pt_val (pe_callB call_isi (by rfl) T.n_isinstance (by decide +kernel) (pa_cons (pv 1) (pa_cons (pe_bltn (v := .ty "list") (by rfl) T.n_list (by decide +kernel) rfl) pa_nil)))) (pw_or1 (pt_val (pe_callB call_isi (by rfl) T.n_isinstance (by decide +kernel) (pa_cons (pv 1) (pa_cons (pe_bltn (v := .ty "tuple") (by rfl) T.n_tuple (by decide +kernel) rfl) pa_nil))))))) (pss_cons ps_never (pss_cons ps_never (pss_one ps_never))) pss_nil)
      (pss_cons (ps_if (pt_cmpR op_isN (pv 1) pe_non (nomark _))
       (pss_one (ps_ret (pe_cmpR op_isN (pv 0) pe_non (nomark _))))
       pss_nil)
      (pss_cons (ps_if (pt_val (pe_callB call_isi (by rfl) T.n_isinstance (by decide +kernel) (pa_cons (pv 1) (pa_cons (pe_bltn (v := .ty "str") (by rfl) T.n_str (by decide +kernel) rfl) pa_nil))))
       (pss_one (ps_ret (pe_and (pe_callB call_isi (by rfl) T.n_isinstance (by decide +kernel) (pa_cons (pv 0) (pa_cons (pe_bltn (v := .ty "str") (by rfl) T.n_str (by decide +kernel) rfl) pa_nil))) (pe_one (pe_cmpR op_eq (pv 0) (pv 1) (nomark _))))))
       pss_nil)
      (pss_one (ps_ret (pe_and (pe_callB call_isi (by rfl) T.n_isinstance (by decide +kernel) (pa_cons (pv 0) (pa_cons (pe_bltn (v := .ty "int") (by rfl) T.n_int (by decide +kernel) rfl) pa_nil))) (pe_and (pe_cmpR op_eq (pe_callB call_isi (by rfl) T.n_isinstance (by decide +kernel) (pa_cons (pv 0) (pa_cons (pe_bltn (v := .ty "bool") (by rfl) T.n_bool (by decide +kernel) rfl) pa_nil))) (pe_callB call_isi (by rfl) T.n_isinstance (by decide +kernel) (pa_cons (pv 1) (pa_cons (pe_bltn (v := .ty "bool") (by rfl) T.n_bool (by decide +kernel) rfl) pa_nil))) (nomark _)) (pe_one (pe_cmpR op_eq (pv 0) (pv 1) (nomark _))))))))))), ?_⟩
      obtain ⟨rfl, sc⟩ := h
      rcases sc with rfl | ⟨bb, rfl⟩ | ⟨ii, rfl⟩ | ⟨zz, rfl⟩
      · refine ⟨.non, rfl, _, _, _, _, false, rfl, .ty "dict", .base .non, kit_ty (by decide +kernel), false, rfl, iteF ?_⟩
        refine ⟨.non, rfl, _, _, _, _, false, rfl, .ty "list", .base .non, kit_ty (by decide +kernel), false, rfl, iteF ⟨.non, rfl, _, _, _, _, false, rfl, .ty "tuple", .base .non, kit_ty (by decide +kernel), false, rfl, iteF ?_⟩⟩
        refine ⟨.non, rfl, rfl, true, blT rfl, iteT ⟨.non, rfl, rfl, ?_⟩⟩
        rw [decide_eq_true rfl]
        exact q _ (Same.refl _)
      · refine ⟨.bl bb, rfl, _, _, _, _, false, rfl, .ty "dict", .base (.bl bb), kit_ty (by decide +kernel), false, rfl, iteF ?_⟩
        refine ⟨.bl bb, rfl, _, _, _, _, false, rfl, .ty "list", .base (.bl bb), kit_ty (by decide +kernel), false, rfl, iteF ⟨.bl bb, rfl, _, _, _, _, false, rfl, .ty "tuple", .base (.bl bb), kit_ty (by decide +kernel), false, rfl, iteF ?_⟩⟩
        refine ⟨.bl bb, rfl, rfl, false, blF (by intro z; cases z), iteF ?_⟩
        refine ⟨.bl bb, rfl, _, _, _, _, false, rfl, .ty "str", .base (.bl bb), kit_ty (by decide +kernel), false, rfl, iteF ⟨.bl bb, rfl, _, _, _, _, true, rfl, .ty "int", .base (.bl bb), kit_ty (by decide +kernel), true, rfl, iteT ⟨.bl bb, rfl, _, _, _, _, true, rfl, .ty "bool", .base (.bl bb), kit_ty (by decide +kernel), .bl bb, rfl, _, _, _, _, true, rfl, .ty "bool", .base (.bl bb), kit_ty (by decide +kernel), rfl, true, blT rfl, iteT ⟨.bl bb, rfl, .bl bb, rfl, rfl, ?_⟩⟩⟩⟩
        rw [decide_eq_true rfl]
        exact q _ (Same.refl _)
      · refine ⟨.int ii, rfl, _, _, _, _, false, rfl, .ty "dict", .base (.int ii), kit_ty (by decide +kernel), false, rfl, iteF ?_⟩
        refine ⟨.int ii, rfl, _, _, _, _, false, rfl, .ty "list", .base (.int ii), kit_ty (by decide +kernel), false, rfl, iteF ⟨.int ii, rfl, _, _, _, _, false, rfl, .ty "tuple", .base (.int ii), kit_ty (by decide +kernel), false, rfl, iteF ?_⟩⟩
        refine ⟨.int ii, rfl, rfl, false, blF (by intro z; cases z), iteF ?_⟩
        refine ⟨.int ii, rfl, _, _, _, _, false, rfl, .ty "str", .base (.int ii), kit_ty (by decide +kernel), false, rfl, iteF ⟨.int ii, rfl, _, _, _, _, true, rfl, .ty "int", .base (.int ii), kit_ty (by decide +kernel), true, rfl, iteT ⟨.int ii, rfl, _, _, _, _, false, rfl, .ty "bool", .base (.int ii), kit_ty (by decide +kernel), .int ii, rfl, _, _, _, _, false, rfl, .ty "bool", .base (.int ii), kit_ty (by decide +kernel), rfl, true, blT rfl, iteT ⟨.int ii, rfl, .int ii, rfl, rfl, ?_⟩⟩⟩⟩
        rw [decide_eq_true rfl]
        exact q _ (Same.refl _)
      · refine ⟨.str zz, rfl, _, _, _, _, false, rfl, .ty "dict", .base (.str zz), kit_ty (by decide +kernel), false, rfl, iteF ?_⟩
        refine ⟨.str zz, rfl, _, _, _, _, false, rfl, .ty "list", .base (.str zz), kit_ty (by decide +kernel), false, rfl, iteF ⟨.str zz, rfl, _, _, _, _, false, rfl, .ty "tuple", .base (.str zz), kit_ty (by decide +kernel), false, rfl, iteF ?_⟩⟩
        refine ⟨.str zz, rfl, rfl, false, blF (by intro z; cases z), iteF ?_⟩
        refine ⟨.str zz, rfl, _, _, _, _, true, rfl, .ty "str", .base (.str zz), kit_ty (by decide +kernel), true, rfl, iteT ⟨.str zz, rfl, _, _, _, _, true, rfl, .ty "str", .base (.str zz), kit_ty (by decide +kernel), true, rfl, iteT ⟨.str zz, rfl, .str zz, rfl, rfl, ?_⟩⟩⟩
        rw [decide_eq_true rfl]
        exact q _ (Same.refl _)
  | succ n ih =>
    have G_Lsame := ih
    refine okH D_Lsame.F sc_Lsame (fun vs H Q E h => ?_) (fun cdv A outer s H vs Q E p hot hr h => ?_)
    · obtain ⟨x, y, rfl, _⟩ := h
      rfl
    · obtain ⟨x, y, rfl, h, q⟩ := h
      have hu : (A.deeper (envOfC "_law_same" (defScope s_Lsame) s.heap.objs.size f cdv)).units + 1 < cLine := by
        have := hr.un
        omega
      refine ⟨_, (pss_cons (ps_if (pt_val (pe_callB call_isi (by rfl) T.n_isinstance (by decide +kernel) (pa_cons (pv 1) (pa_cons (pe_bltn (v := .ty "dict") (by rfl) T.n_dict (by decide +kernel) rfl) pa_nil))))
       (pss_cons (ps_if (PW.pt (pw_or (pt_not (pt_val (pe_callB call_isi (by rfl) T.n_isinstance (by decide +kernel) (pa_cons (pv 0) (pa_cons (pe_bltn (v := .ty "dict") (by rfl) T.n_dict (by decide +kernel) rfl) pa_nil))))) (pw_or1 (pt_cmpR op_ne (pe_callB call_lenR (by rfl) T.n_len (by decide +kernel) (pa_cons (pv 0) pa_nil)) (pe_callB call_lenR (by rfl) T.n_len (by decide +kernel) (pa_cons (pv 1) pa_nil)) (nomark _)))))
         (pss_one (ps_ret pe_bl))
         pss_nil)
        (pss_cons (ps_if (pt_not (pt_val (pe_callB (cr_allH ⟨p, hot, List.mem_cons_self⟩) (by rfl) T.n_all (by decide +kernel) (pa_cons (pe_lock (pe_lcH (own := [("_law_key", 2)]) (g := (gName 2)) (tt := tYes) hot List.mem_cons_self sc_Lsame.nd (pi_keysH (pv 1)) (blkOk_by (own := [("_law_key", 2)]) (N := N_Lsame) (sc := defScope s_Lsame) (by decide +kernel)) (fun _ _ _ _ _ => (pg_name (i := 2) sc_Lsame.nd rfl (.inl rfl))) (fun _ _ _ _ _ => pts_nil) (fun _ _ _ _ _ => (pe_cmp (pc_din hu (pv 2) (pv 0)) rfl)))) pa_nil))))
         (pss_one (ps_ret pe_bl))
         pss_nil)
        (pss_one (ps_ret (pe_callB (cr_allH ⟨p, hot, List.mem_cons_self⟩) (by rfl) T.n_all (by decide +kernel) (pa_cons (pe_lock (pe_lcH (own := [("_law_key", 2)]) (g := (gName 2)) (tt := tYes) hot List.mem_cons_self sc_Lsame.nd (pi_keysH (pv 1)) (blkOk_by (own := [("_law_key", 2)]) (N := N_Lsame) (sc := defScope s_Lsame) (by decide +kernel)) (fun _ _ _ _ _ => (pg_name (i := 2) sc_Lsame.nd rfl (.inl rfl))) (fun _ _ _ _ _ => pts_nil) (fun _ _ _ _ _ => (L2H.pe_callH (E := fun _ => E0) G_Lsame (hr.mono (by omega)) (hotBlk hot) (by rfl) D_Lsame.g D_Lsame.F.kp D_Lsame.b (fun _ _ _ _ _ _ _ z => z.elim) (pa_cons (pe_dget hu (pv 0) (pv 2) (fun _ _ => rfl)) (pa_cons (pe_dget hu (pv 1) (pv 2) (fun _ _ => rfl)) pa_nil)))))) pa_nil))))))
       pss_nil)
      (pss_cons (ps_if (PW.pt (pw_or (pt_val (pe_callB call_isi (by rfl) T.n_isinstance (by decide +kernel) (pa_cons (pv 1) (pa_cons (pe_bltn (v := .ty "list") (by rfl) T.n_list (by decide +kernel) rfl) pa_nil)))) (pw_or1 (pt_val (pe_callB call_isi (by rfl) T.n_isinstance (by decide +kernel) (pa_cons (pv 1) (pa_cons (pe_bltn (v := .ty "tuple") (by rfl) T.n_tuple (by decide +kernel) rfl) pa_nil)))))))
       (pss_cons (ps_if (pt_cmpR op_ne (pe_callB call_isi (by rfl) T.n_isinstance (by decide +kernel) (pa_cons (pv 0) (pa_cons (pe_bltn (v := .ty "list") (by rfl) T.n_list (by decide +kernel) rfl) pa_nil))) (pe_callB call_isi (by rfl) T.n_isinstance (by decide +kernel) (pa_cons (pv 1) (pa_cons (pe_bltn (v := .ty "list") (by rfl) T.n_list (by decide +kernel) rfl) pa_nil))) (nomark _))
         (pss_one (ps_ret pe_bl))
         pss_nil)
        (pss_cons (ps_if (PW.pt (pw_or (pt_cmpR op_ne (pe_callB call_isi (by rfl) T.n_isinstance (by decide +kernel) (pa_cons (pv 0) (pa_cons (pe_bltn (v := .ty "tuple") (by rfl) T.n_tuple (by decide +kernel) rfl) pa_nil))) (pe_callB call_isi (by rfl) T.n_isinstance (by decide +kernel) (pa_cons (pv 1) (pa_cons (pe_bltn (v := .ty "tuple") (by rfl) T.n_tuple (by decide +kernel) rfl) pa_nil))) (nomark _)) (pw_or1 (pt_cmpR op_ne (pe_callB call_len_seq (by rfl) T.n_len (by decide +kernel) (pa_cons (pv 0) pa_nil)) (pe_callB call_len_seq (by rfl) T.n_len (by decide +kernel) (pa_cons (pv 1) pa_nil)) (nomark _)))))
         (pss_one (ps_ret pe_bl))
         pss_nil)
        (pss_one (ps_ret (pe_callB (cr_allH ⟨p, hot, List.mem_cons_self⟩) (by rfl) T.n_all (by decide +kernel) (pa_cons (pe_lcH (own := [("_law_k", 3)]) (g := (gName 3)) (tt := tYes) hot List.mem_cons_self sc_Lsame.nd (L2H.pi_range1H (by rfl) T.n_range (pa_cons (pe_callB call_len_seq (by rfl) T.n_len (by decide +kernel) (pa_cons (pv 1) pa_nil)) pa_nil)) (blkOk_by (own := [("_law_k", 3)]) (N := N_Lsame) (sc := defScope s_Lsame) (by decide +kernel)) (fun _ _ _ _ _ => (pg_name (i := 3) sc_Lsame.nd rfl (.inl rfl))) (fun _ _ _ _ _ => pts_nil) (fun _ _ _ _ _ => (L2H.pe_callH (E := fun _ => E0) G_Lsame (hr.mono (by omega)) (hotBlk hot) (by rfl) D_Lsame.g D_Lsame.F.kp D_Lsame.b (fun _ _ _ _ _ _ _ z => z.elim) (pa_cons (pe_ix (ix_seqK K) (pv 0) (pv 3) (fun _ _ => rfl)) (pa_cons (pe_ix (ix_seqK K) (pv 1) (pv 3) (fun _ _ => rfl)) pa_nil))))) pa_nil))))))
       pss_nil)
      (pss_cons (ps_if (pt_cmpR op_isN (pv 1) pe_non (nomark _))
       (pss_one (ps_ret (pe_cmpR op_isN (pv 0) pe_non (nomark _))))
       pss_nil)
      (pss_cons (ps_if (pt_val (pe_callB call_isi (by rfl) T.n_isinstance (by decide +kernel) (pa_cons (pv 1) (pa_cons (pe_bltn (v := .ty "str") (by rfl) T.n_str (by decide +kernel) rfl) pa_nil))))
       (pss_one (ps_ret (pe_and (pe_callB call_isi (by rfl) T.n_isinstance (by decide +kernel) (pa_cons (pv 0) (pa_cons (pe_bltn (v := .ty "str") (by rfl) T.n_str (by decide +kernel) rfl) pa_nil))) (pe_one (pe_cmpR op_eq (pv 0) (pv 1) (nomark _))))))
       pss_nil)
      (pss_one (ps_ret (pe_and (pe_callB call_isi (by rfl) T.n_isinstance (by decide +kernel) (pa_cons (pv 0) (pa_cons (pe_bltn (v := .ty "int") (by rfl) T.n_int (by decide +kernel) rfl) pa_nil))) (pe_and (pe_cmpR op_eq (pe_callB call_isi (by rfl) T.n_isinstance (by decide +kernel) (pa_cons (pv 0) (pa_cons (pe_bltn (v := .ty "bool") (by rfl) T.n_bool (by decide +kernel) rfl) pa_nil))) (pe_callB call_isi (by rfl) T.n_isinstance (by decide +kernel) (pa_cons (pv 1) (pa_cons (pe_bltn (v := .ty "bool") (by rfl) T.n_bool (by decide +kernel) rfl) pa_nil))) (nomark _)) (pe_one (pe_cmpR op_eq (pv 0) (pv 1) (nomark _))))))))))), ?_⟩
      rcases h with h | ⟨a, b, xs, ys, rfl, rfl, h, hl, h1, h2⟩ | ⟨a, b, kvs, lvs, rfl, rfl, ha, hb, hl, h1, hnd, h2⟩
      · skip
        obtain ⟨rfl, sc⟩ := h
        rcases sc with rfl | ⟨bb, rfl⟩ | ⟨ii, rfl⟩ | ⟨zz, rfl⟩
        · refine ⟨.non, rfl, _, _, _, _, false, rfl, .ty "dict", .base .non, kit_ty (by decide +kernel), false, rfl, iteF ?_⟩
          refine ⟨.non, rfl, _, _, _, _, false, rfl, .ty "list", .base .non, kit_ty (by decide +kernel), false, rfl, iteF ⟨.non, rfl, _, _, _, _, false, rfl, .ty "tuple", .base .non, kit_ty (by decide +kernel), false, rfl, iteF ?_⟩⟩
          refine ⟨.non, rfl, rfl, true, blT rfl, iteT ⟨.non, rfl, rfl, ?_⟩⟩
          rw [decide_eq_true rfl]
          exact q _ (Same.refl _)
        · refine ⟨.bl bb, rfl, _, _, _, _, false, rfl, .ty "dict", .base (.bl bb), kit_ty (by decide +kernel), false, rfl, iteF ?_⟩
          refine ⟨.bl bb, rfl, _, _, _, _, false, rfl, .ty "list", .base (.bl bb), kit_ty (by decide +kernel), false, rfl, iteF ⟨.bl bb, rfl, _, _, _, _, false, rfl, .ty "tuple", .base (.bl bb), kit_ty (by decide +kernel), false, rfl, iteF ?_⟩⟩
          refine ⟨.bl bb, rfl, rfl, false, blF (by intro z; cases z), iteF ?_⟩
          refine ⟨.bl bb, rfl, _, _, _, _, false, rfl, .ty "str", .base (.bl bb), kit_ty (by decide +kernel), false, rfl, iteF ⟨.bl bb, rfl, _, _, _, _, true, rfl, .ty "int", .base (.bl bb), kit_ty (by decide +kernel), true, rfl, iteT ⟨.bl bb, rfl, _, _, _, _, true, rfl, .ty "bool", .base (.bl bb), kit_ty (by decide +kernel), .bl bb, rfl, _, _, _, _, true, rfl, .ty "bool", .base (.bl bb), kit_ty (by decide +kernel), rfl, true, blT rfl, iteT ⟨.bl bb, rfl, .bl bb, rfl, rfl, ?_⟩⟩⟩⟩
          rw [decide_eq_true rfl]
          exact q _ (Same.refl _)
        · refine ⟨.int ii, rfl, _, _, _, _, false, rfl, .ty "dict", .base (.int ii), kit_ty (by decide +kernel), false, rfl, iteF ?_⟩
          refine ⟨.int ii, rfl, _, _, _, _, false, rfl, .ty "list", .base (.int ii), kit_ty (by decide +kernel), false, rfl, iteF ⟨.int ii, rfl, _, _, _, _, false, rfl, .ty "tuple", .base (.int ii), kit_ty (by decide +kernel), false, rfl, iteF ?_⟩⟩
          refine ⟨.int ii, rfl, rfl, false, blF (by intro z; cases z), iteF ?_⟩
          refine ⟨.int ii, rfl, _, _, _, _, false, rfl, .ty "str", .base (.int ii), kit_ty (by decide +kernel), false, rfl, iteF ⟨.int ii, rfl, _, _, _, _, true, rfl, .ty "int", .base (.int ii), kit_ty (by decide +kernel), true, rfl, iteT ⟨.int ii, rfl, _, _, _, _, false, rfl, .ty "bool", .base (.int ii), kit_ty (by decide +kernel), .int ii, rfl, _, _, _, _, false, rfl, .ty "bool", .base (.int ii), kit_ty (by decide +kernel), rfl, true, blT rfl, iteT ⟨.int ii, rfl, .int ii, rfl, rfl, ?_⟩⟩⟩⟩
          rw [decide_eq_true rfl]
          exact q _ (Same.refl _)
        · refine ⟨.str zz, rfl, _, _, _, _, false, rfl, .ty "dict", .base (.str zz), kit_ty (by decide +kernel), false, rfl, iteF ?_⟩
          refine ⟨.str zz, rfl, _, _, _, _, false, rfl, .ty "list", .base (.str zz), kit_ty (by decide +kernel), false, rfl, iteF ⟨.str zz, rfl, _, _, _, _, false, rfl, .ty "tuple", .base (.str zz), kit_ty (by decide +kernel), false, rfl, iteF ?_⟩⟩
          refine ⟨.str zz, rfl, rfl, false, blF (by intro z; cases z), iteF ?_⟩
          refine ⟨.str zz, rfl, _, _, _, _, true, rfl, .ty "str", .base (.str zz), kit_ty (by decide +kernel), true, rfl, iteT ⟨.str zz, rfl, _, _, _, _, true, rfl, .ty "str", .base (.str zz), kit_ty (by decide +kernel), true, rfl, iteT ⟨.str zz, rfl, .str zz, rfl, rfl, ?_⟩⟩⟩
          rw [decide_eq_true rfl]
          exact q _ (Same.refl _)
      · -- lists, tuples
        rcases h with ⟨ha, hb⟩ | ⟨ha, hb⟩
        · refine ⟨.ref b, rfl, _, _, _, _, false, rfl, .ty "dict", .base (.lst hb), kit_ty (by decide +kernel), false, rfl, iteF ?_⟩
          refine ⟨.ref b, rfl, _, _, _, _, true, rfl, .ty "list", .base (.lst hb), kit_ty (by decide +kernel), true, rfl, iteT ?_⟩
          refine ⟨.ref a, rfl, _, _, _, _, true, rfl, .ty "list", .base (.lst ha), kit_ty (by decide +kernel), .ref b, rfl, _, _, _, _, true, rfl, .ty "list", .base (.lst hb), kit_ty (by decide +kernel), rfl, false, blNF rfl, iteF ?_⟩
          refine ⟨.ref a, rfl, _, _, _, _, false, rfl, .ty "tuple", .base (.lst ha), kit_ty (by decide +kernel), .ref b, rfl, _, _, _, _, false, rfl, .ty "tuple", .base (.lst hb), kit_ty (by decide +kernel), rfl, false, blNF rfl, iteF ⟨.ref a, rfl, a, xs, rfl, .inl (SqL.of ha), .ref b, rfl, b, ys, rfl, .inl (SqL.of hb), rfl, false, blNF (by rw [hl]), iteF ?_⟩⟩
          refine ⟨.ref b, rfl, b, ys, rfl, .inl (SqL.of hb), ys.length, rfl, by omega, by omega, fun Da nD => ?_⟩
          refine lc_all (walk_range (lo := 0) (n := ys.length)) (fun i x => x = .int (0 + (i : Int))) (fun i H x H' hi y => y) (fun _ _ => trivial) nD h1 (fun _ => rfl) ?_ ?_
          · rintro i x H2 Q2 hi rfl sm k
            have ex : xs[i]? = some (xs[i]'(by omega)) := List.getElem?_eq_getElem _
            have ey : ys[i]? = some ys[i] := List.getElem?_eq_getElem _
            exact ⟨.ref a, rfl, _, rfl, .inl ⟨a, xs, _, _, rfl, rfl, SqL.of (sm _ _ ha), at_of (j := i) (by omega) ex, .ref b, rfl, _, rfl, .inl ⟨b, ys, _, _, rfl, rfl, SqL.of (sm _ _ hb), at_of (j := i) (by omega) ey, _, _, rfl, SameV.same sm (h2 i _ _ ex ey), k⟩⟩⟩
          · intro H2 sm e2
            refine ⟨Da, List.replicate ys.length true, rfl, SqL.of e2, ?_⟩
            rw [all_true]
            exact q _ sm
        · refine ⟨.ref b, rfl, _, _, _, _, false, rfl, .ty "dict", .base (.tup hb), kit_ty (by decide +kernel), false, rfl, iteF ?_⟩
          refine ⟨.ref b, rfl, _, _, _, _, false, rfl, .ty "list", .base (.tup hb), kit_ty (by decide +kernel), false, rfl, iteF ⟨.ref b, rfl, _, _, _, _, true, rfl, .ty "tuple", .base (.tup hb), kit_ty (by decide +kernel), true, rfl, ?_⟩⟩
          refine iteT ?_
          refine ⟨.ref a, rfl, _, _, _, _, false, rfl, .ty "list", .base (.tup ha), kit_ty (by decide +kernel), .ref b, rfl, _, _, _, _, false, rfl, .ty "list", .base (.tup hb), kit_ty (by decide +kernel), rfl, false, blNF rfl, iteF ?_⟩
          refine ⟨.ref a, rfl, _, _, _, _, true, rfl, .ty "tuple", .base (.tup ha), kit_ty (by decide +kernel), .ref b, rfl, _, _, _, _, true, rfl, .ty "tuple", .base (.tup hb), kit_ty (by decide +kernel), rfl, false, blNF rfl, iteF ⟨.ref a, rfl, a, xs, rfl, .inr (.inl (.inl ha)), .ref b, rfl, b, ys, rfl, .inr (.inl (.inl hb)), rfl, false, blNF (by rw [hl]), iteF ?_⟩⟩
          refine ⟨.ref b, rfl, b, ys, rfl, .inr (.inl (.inl hb)), ys.length, rfl, by omega, by omega, fun Da nD => ?_⟩
          refine lc_all (walk_range (lo := 0) (n := ys.length)) (fun i x => x = .int (0 + (i : Int))) (fun i H x H' hi y => y) (fun _ _ => trivial) nD h1 (fun _ => rfl) ?_ ?_
          · rintro i x H2 Q2 hi rfl sm k
            have ex : xs[i]? = some (xs[i]'(by omega)) := List.getElem?_eq_getElem _
            have ey : ys[i]? = some ys[i] := List.getElem?_eq_getElem _
            exact ⟨.ref a, rfl, _, rfl, .inr (.inl ⟨a, xs, _, _, rfl, rfl, .inl (.inl (sm _ _ ha)), at_of (j := i) (by omega) ex, .ref b, rfl, _, rfl, .inr (.inl ⟨b, ys, _, _, rfl, rfl, .inl (.inl (sm _ _ hb)), at_of (j := i) (by omega) ey, _, _, rfl, SameV.same sm (h2 i _ _ ex ey), k⟩)⟩)⟩
          · intro H2 sm e2
            refine ⟨Da, List.replicate ys.length true, rfl, SqL.of e2, ?_⟩
            rw [all_true]
            exact q _ sm

      · -- dicts
        refine ⟨.ref b, rfl, _, _, _, _, true, rfl, .ty "dict", .base (.dK hb), kit_ty (by decide +kernel), true, rfl, iteT ?_⟩
        refine ⟨.ref a, rfl, _, _, _, _, true, rfl, .ty "dict", .base (.dK ha), kit_ty (by decide +kernel), true, rfl, iteF ⟨.ref a, rfl, a, kvs, rfl, .inl ha, .ref b, rfl, b, lvs, rfl, .inl hb, rfl, false, blNF (by rw [hl]), iteF ?_⟩⟩
        -- all keys
        refine ⟨b, .dK lvs, hb, trivial, fun od => ⟨.ref b, rfl, b, od, lvs, rfl, upd_same, fun Da nD => ?_⟩⟩
        have rd1 : ∀ {H2 : Hp} {od : Obj}, Same (upd H b (.frz od (.dK lvs))) H2 → Rd H2 a (.dK kvs) := fun sm => rd_same sm (rd_put hb ha)
        refine lc_all walk_keys (fun i x => ∃ k v, (k, v) ∈ lvs ∧ x = kV k) ?_ (fun H sm => sm _ _ upd_same) nD h1 (fun _ => rfl) ?_ ?_
        · rintro i H x H' hi ⟨rfl, k, v, e, rfl⟩
          exact ⟨rfl, k, v, List.mem_of_getElem? e, rfl⟩
        · rintro i x H2 Q2 hi ⟨k, v, m, rfl⟩ sm kk
          refine ⟨kV k, rfl, .ref a, rfl, a, _, rfl, .inl ⟨kvs, k, rd1 sm, rfl, rfl⟩, ?_⟩
          rw [(h2 k v m).1]
          exact kk _ (Same.refl _)
        · intro H2 sm e2
          refine ⟨sm _ _ upd_same, Da, List.replicate lvs.length true, rfl, SqL.of ?_, true, by rw [all_true], iteF ?_⟩
          · rw [upd_ne (show Da ≠ b from fun z => by rw [z, upd_same] at nD; cases nD)]
            exact e2
          have s3 : Same H (upd H2 b (.dK lvs)) := same_unlock hb sm
          generalize upd H2 b (.dK lvs) = H3 at s3
          have ha3 := s3 _ _ ha
          have hb3 := s3 _ _ hb
          clear e2 sm nD rd1
          refine ⟨b, .dK lvs, hb3, trivial, fun od => ⟨.ref b, rfl, b, od, lvs, rfl, upd_same, fun Db nE => ?_⟩⟩
          have rd1 : ∀ {H2 : Hp} {od : Obj}, Same (upd H3 b (.frz od (.dK lvs))) H2 → Rd H2 a (.dK kvs) := fun sm => rd_same sm (rd_put hb3 ha3)
          refine lc_all walk_keys (fun i x => ∃ k v, (k, v) ∈ lvs ∧ x = kV k) ?_ (fun H sm => sm _ _ upd_same) nE h1 (fun _ => rfl) ?_ ?_
          · rintro i H x H' hi ⟨rfl, k, v, e, rfl⟩
            exact ⟨rfl, k, v, List.mem_of_getElem? e, rfl⟩
          · rintro i x H4 Q2 hi ⟨k, v, m, rfl⟩ sm kk
            refine ⟨.ref a, rfl, kV k, rfl, a, v, rfl, .inl ⟨kvs, k, rd1 sm, rfl, (h2 k v m).1.symm⟩, .ref b, rfl, kV k, rfl, b, v, rfl, .inl ⟨lvs, k, .inr ⟨od, sm _ _ upd_same⟩, rfl, (valV_nd hnd m).symm⟩, v, v, rfl, ?_, kk⟩
            cases n with
            | zero => exact ⟨rfl, (h2 k v m).2⟩
            | succ n => exact .inl ⟨rfl, (h2 k v m).2⟩
          · intro H4 sm e4
            refine ⟨sm _ _ upd_same, Db, List.replicate lvs.length true, rfl, SqL.of ?_, ?_⟩
            · rw [upd_ne (show Db ≠ b from fun z => by rw [z, upd_same] at nE; cases nE)]
              exact e4
            · rw [all_true]
              exact q _ (s3.trans (same_unlock hb3 sm))
end
end NW
namespace NW
open PySem PySem.Spec PyProof.Rows L2
open TL (tl)
open StX (pa_star)
abbrev s_Schema_fields : Stmt := inClass (topS 35) 9
abbrev N_Schema_fields : List Str := ["self", "base"]
theorem sc_Schema_fields : FnScope N_Schema_fields ["self", "base"] (defScope s_Schema_fields) := ⟨rfl, rfl, rfl, by decide +kernel, rfl, by decide +kernel, by decide +kernel⟩section
variable {P : Program} {w : World} {K : PySem.W.Frag} {mg : Str → Option Value} {base : Heap}

theorem FdsOf.few {ks : List KRow} {fs : List FRow} {us : List URow} {root z : Str} {fds : List Fld} (ok : SchOk ks fs us root) (h : FdsOf ks fs z fds) : fds.length ≤ 5 := by
  rcases h with ⟨k, m, _, rfl⟩ | ⟨_, f, m, _, rfl⟩ | ⟨_, _, rfl⟩
  · exact (ok.kd k m).n1
  · exact Nat.le_trans (ok.fd f m).n1 (by decide)
  · exact Nat.zero_le _
def spFields (K : PySem.W.Frag) (C CN : Addr) : Sp := fun vs H Q E => ∃ (x : Addr) (y : V) (ks : List KRow) (fs : List FRow) (us : List URow) (root : Str), vs = [.ref x, y] ∧ BuiltAt C H x ks fs us root ∧ SchOk ks fs us root ∧
  ((∃ z, y = .str z ∧ z ∈ bsOf ks fs us ∧ ∀ (fds : List Fld) (l : List Str) p H', FdsOf ks fs z fds → l.Perm (fds.map (·.1)) → sortedS l = true → Same H H' → H p = none → H' p = some (.lst (l.map V.str)) → Q (.ref p) H') ∨
    (((∃ z, y = .str z ∧ z ∉ bsOf ks fs us) ∨ ∃ t, TyX K H y t ∧ PySem.W.kitOne K t (.type "str") = some false) ∧ ∀ d H', Same H H' → H d = none → H' d = some (.xd [("base", y)]) → E (.ref CN) (some d) H'))
theorem ok_fields {f f1 C CN : Addr} {fd fd1 : FuncData} (F : Fun K "fields" "Schema.fields" s_Schema_fields f fd) (M : Mt K C "shapes_at" "Schema.shapes_at" s_Schema_shapes_at f1 fd1 ["self", "base"]) (G_shapes_at : FnOk P w K mg base (L2N.CX P w) 4 f1 fd1 ["self", "base"] (spShapes K C CN))
    (T : Nms mg) (L : ClT K C) : FnOk P w K mg base (L2N.CX P w) 5 f fd ["self", "base"] (spFields K C CN) := by
  refine okC F sc_Schema_fields (fun vs H Q E h => ?_) (fun cdv A outer s H vs Q E hr h => ?_)
  · obtain ⟨x, y, ks, fs, us, root, rfl, _⟩ := h
    rfl
  · obtain ⟨x, y, ks, fs, us, root, rfl, Bt, ok, q⟩ := h
    refine ⟨_, (pss_one (ps_ret (pe_callB (call_sortedD rfl) (by rfl) T.n_sorted (by decide +kernel) (pa_cons (pe_methX (pv 0) L.cl M.m G_shapes_at (hr.mono (by decide)) M.b (fun σ => L2N.passAt (L2N.takes_of rfl rfl rfl rfl) σ) (pa_cons (pv 1) pa_nil)) pa_nil)))), ?_⟩
    have Bt' := Bt
    obtain ⟨dx0, kt, ft, ut, ks', fs', us', hx, _⟩ := Bt'
    refine ⟨.ref x, rfl, x, dx0, _, rfl, hx, lkn _ _ _ _ (by decide +kernel) (by decide +kernel) (by decide +kernel) (by decide +kernel), y, rfl, x, y, ks, fs, us, root, rfl, Bt, ok, ?_⟩
    rcases q with ⟨z, rfl, hz, q⟩ | ⟨hbad, q⟩
    · refine .inl ⟨z, rfl, hz, fun fds p1 H1 hf _ s1 n1 e1 => ⟨p1, fkv fds, _, rfl, .inl e1, fkv_keys fds, ?_, fun ys p pm so np => q fds ys p _ hf pm so (s1.trans (same_new np)) (s1.free np) upd_same⟩⟩
      rw [List.length_map]
      exact Nat.lt_of_le_of_lt (hf.few ok) (by decide)
    · exact .inr ⟨hbad, q⟩
end
end NW
namespace NW
open PySem PySem.Spec PyProof.Rows L2
open TL (tl)
open StX (pa_star)
abbrev s_Schema_shape_of : Stmt := inClass (topS 35) 10
abbrev N_Schema_shape_of : List Str := ["self", "base", "field", "shapes"]
theorem sc_Schema_shape_of : FnScope N_Schema_shape_of ["self", "base", "field"] (defScope s_Schema_shape_of) := ⟨rfl, rfl, rfl, by decide +kernel, rfl, by decide +kernel, by decide +kernel⟩
abbrev s_NoField_init : Stmt := inClass (topS 5) 0
abbrev N_NoField_init : List Str := ["self", "base", "field"]
theorem sc_NoField_init : FnScope N_NoField_init ["self", "base", "field"] (defScope s_NoField_init) := ⟨rfl, rfl, rfl, by decide +kernel, rfl, by decide +kernel, by decide +kernel⟩
structure NoF (K : PySem.W.Frag) (mg : Str → Option Value) (C fI : Addr) : Prop where
  T : OexC K C
  iC : PySem.W.findIn K (.ref C) "__init__" = some (some (.ref fI))
  tI : PySem.W.typeIn K (.ref fI) = some (.type "function")
  g : mg "NoField" = some (.ref C)
  nb : PySem.W.findIn K (.ref C) "base" = some none
  nf : PySem.W.findIn K (.ref C) "field" = some none
section
variable {P : Program} {w : World} {K : PySem.W.Frag} {mg : Str → Option Value} {base : Heap}

def spNF (C : Addr) : Sp := fun vs H Q _ => ∃ (a : Addr) (y u : V), vs = [.ref a, y, u] ∧ H a = some (exo a C none) ∧ ∀ dx H', H dx = none → dx ≠ a → H' a = some (exo a C (some dx)) → H' dx = some (exd dx [("field", u), ("base", y)]) → (∀ b, b ≠ a → b ≠ dx → H' b = H b) → Q .non H'
theorem ok_NF {f C : Addr} {fd : FuncData} (F : Fun K "__init__" "NoField.__init__" s_NoField_init f fd) (N : NoF K mg C f) : FnOk P w K mg base CX0 1 f fd ["self", "base", "field"] (spNF C) := by
  refine F.ok sc_NoField_init (fun vs H Q E h => ?_) (fun cdv A outer s H vs Q E hr h => ?_)
  · obtain ⟨a, y, u, rfl, _⟩ := h
    rfl
  · obtain ⟨a, y, u, rfl, ha, q⟩ := h
    refine ⟨_, (pss_cons (ps_ost (pv 0) (pv 1))
      (pss_one (ps_ost (pv 0) (pv 2)))), ?_⟩
    refine ⟨y, rfl, .ref a, rfl, a, C, rfl, N.T, N.nb, .inl ⟨ha, fun dx nd nda => ?_⟩⟩
    refine ⟨u, rfl, .ref a, rfl, a, C, rfl, N.T, N.nf, .inr ⟨dx, [("base", y)], upd_same, by rw [upd_ne nda]; exact upd_same, by show 1 ≤ 900; decide, ?_⟩⟩
    refine q dx _ nd nda ?_ ?_ ?_
    · rw [upd_ne (Ne.symm nda)]
      exact upd_same
    · exact upd_same
    · intro b h1 h2
      rw [upd_ne h2, upd_ne h1, upd_ne h2]
/-- a field's shape; what it may let out: no base, or no field of the base -/
def spShapeOf (K : PySem.W.Frag) (C CN CF : Addr) : Sp := fun vs H Q E => ∃ (x : Addr) (y u : V) (ks : List KRow) (fs : List FRow) (us : List URow) (root : Str), vs = [.ref x, y, u] ∧ BuiltAt C H x ks fs us root ∧ SchOk ks fs us root ∧
  ((∃ z, y = .str z ∧ z ∈ bsOf ks fs us ∧ ∀ (fds : List Fld), FdsOf ks fs z fds →
      ((∃ g, u = .str g ∧ ((∃ fl ∈ fds, fl.1 = g ∧ ∀ H', Same H H' → ShAt H' fl.2.1 fl.2.2 → Q fl.2.1 H') ∨ (g ∉ fds.map (·.1) ∧ ∀ d H', Same H H' → H d = none → H' d = some (.xd [("field", u), ("base", y)]) → E (.ref CF) (some d) H'))) ∨
        ((∃ t, (∀ H', Same H H' → TyX K H' u t) ∧ PySem.W.kitOne K t (.type "str") = some false) ∧ ∀ d H', Same H H' → H d = none → H' d = some (.xd [("field", u), ("base", y)]) → E (.ref CF) (some d) H'))) ∨
    (((∃ z, y = .str z ∧ z ∉ bsOf ks fs us) ∨ ∃ t, TyX K H y t ∧ PySem.W.kitOne K t (.type "str") = some false) ∧ ∀ d H', Same H H' → H d = none → H' d = some (.xd [("base", y)]) → E (.ref CN) (some d) H'))
theorem FdsOf.nd {ks : List KRow} {fs : List FRow} {us : List URow} {root z : Str} {fds : List Fld} (ok : SchOk ks fs us root) (h : FdsOf ks fs z fds) : (fds.map (·.1)).Nodup := by
  rcases h with ⟨k, m, _, rfl⟩ | ⟨_, f, m, _, rfl⟩ | ⟨_, _, rfl⟩
  · exact (ok.kd k m).nd
  · exact (ok.fd f m).nd
  · exact List.nodup_nil
theorem ok_shape_of {f f1 f2 f3 C CN CF : Addr} {fd fd1 fd2 fd3 : FuncData} (F : Fun K "shape_of" "Schema.shape_of" s_Schema_shape_of f fd) (M : Mt K C "shapes_at" "Schema.shapes_at" s_Schema_shapes_at f1 fd1 ["self", "base"]) (G_shapes_at : FnOk P w K mg base (L2N.CX P w) 4 f1 fd1 ["self", "base"] (spShapes K C CN))
    (D_is_key : Df K mg "is_key" s_is_key f2 fd2 ["name", "table"]) (G_is_key : FnOk P w K mg base CX0 1 f2 fd2 ["name", "table"] (spIsKey K)) (NF : NoF K mg CF f3) (bF : Binds K fd3 ["self", "base", "field"] []) (G_NF : FnOk P w K mg base CX0 1 f3 fd3 ["self", "base", "field"] (spNF CF))
    (T : Nms mg) (L : ClT K C) : FnOk P w K mg base (L2N.CX P w) 5 f fd ["self", "base", "field"] (spShapeOf K C CN CF) := by
  refine okC F sc_Schema_shape_of (fun vs H Q E h => ?_) (fun cdv A outer s H vs Q E hr h => ?_)
  · obtain ⟨x, y, u, ks, fs, us, root, rfl, _⟩ := h
    rfl
  · obtain ⟨x, y, u, ks, fs, us, root, rfl, Bt, ok, q⟩ := h
    have hu := hu_of hr
    refine ⟨_, (pss_cons (ps_set (i := 3) sc_Schema_shape_of.nd rfl (.inl rfl) (pe_methX (pv 0) L.cl M.m G_shapes_at (hr.mono (by decide)) M.b (fun σ => L2N.passAt (L2N.takes_of rfl rfl rfl rfl) σ) (pa_cons (pv 1) pa_nil)))
      (pss_cons (ps_if (pt_not (pt_val (pe_call G_is_key (hr.mono (by decide)) (by rfl) D_is_key.g D_is_key.F.kp D_is_key.b .nil pass0 (pa_cons (pv 2) (pa_cons (pv 3) pa_nil)))))
       (pss_one (L2N.ps_raise rfl (L2N.takes_of rfl rfl rfl rfl) (pmkN NF.T NF.iC NF.tI G_NF (hr.mono (by decide)) bF pass0 (by rfl) NF.g (pa_cons (pv 1) (pa_cons (pv 2) pa_nil)))))
       pss_nil)
      (pss_one (ps_ret (pe_dget hu (pv 3) (pv 2) (fun _ _ => rfl)))))), ?_⟩
    have Bt' := Bt
    obtain ⟨dx0, kt, ft, ut, ks', fs', us', hx, _⟩ := Bt'
    refine ⟨.ref x, rfl, x, dx0, _, rfl, hx, lkn _ _ _ _ (by decide +kernel) (by decide +kernel) (by decide +kernel) (by decide +kernel), y, rfl, x, y, ks, fs, us, root, rfl, Bt, ok, ?_⟩
    rcases q with ⟨z, rfl, hz, q⟩ | ⟨hbad, q⟩
    · refine .inl ⟨z, rfl, hz, fun fds p1 H1 hf hsh s1 n1 e1 => ?_⟩
      have bad : (∀ d H', Same H H' → H d = none → H' d = some (.xd [("field", u), ("base", .str z)]) → E (.ref CF) (some d) H') → ∀ a, H1 a = none → spNF CF ([.ref a, .str z, u]) (upd H1 a (exo a CF none)) (fun v H2 => v = .non ∧ ∃ (d : Addr) (fs : List (Str × V)), H2 a = some (exo a CF (some d)) ∧ H2 d = some (exd d fs) ∧ H1 d = none ∧ E (.ref CF) (some d) (upd (del H2 a) d (.xd fs))) E0 := by
        intro k a na
        refine ⟨a, .str z, u, rfl, upd_same, fun d H2 nd nda ha hd rest => ⟨rfl, d, _, ha, hd, ?_, ?_⟩⟩
        · rw [upd_ne nda] at nd
          exact nd
        · rw [upd_ne nda] at nd
          refine k d _ (fun b o e => ?_) (s1.free nd) upd_same
          have eb := s1 _ _ e
          have nbd : b ≠ d := ne_of_none eb nd
          have nba : b ≠ a := ne_of_none eb na
          rw [upd_ne nbd, del_ne nba, rest b nba nbd, upd_ne nba]
          exact eb
      rcases q fds hf with ⟨g, rfl, ⟨fl, fm, rfl, q1⟩ | ⟨ng, q2⟩⟩ | ⟨⟨t, ht, hk⟩, q3⟩
      · have hv : valV (fkv fds) (Sum.inr fl.1) = some fl.2.1 := valV_map (f := fun f : Fld => f.1) (g := fun f => f.2.1) (hf.nd ok) fm
        refine ⟨.str fl.1, rfl, .ref p1, rfl, .str fl.1, p1, rfl, .inl ⟨fl.1, rfl, .inr ⟨fkv fds, .inl e1, ?_⟩⟩⟩
        rw [hv]
        exact ⟨true, rfl, iteF ⟨.ref p1, rfl, .str fl.1, rfl, p1, _, rfl, .inl ⟨fkv fds, .inr fl.1, .inl e1, rfl, hv.symm⟩, q1 H1 s1 (hsh fl fm)⟩⟩
      · have hv : valV (fkv fds) (Sum.inr g) = none := valV_out (f := fun f : Fld => f.1) (g := fun f => f.2.1) ng
        refine ⟨.str g, rfl, .ref p1, rfl, .str g, p1, rfl, .inl ⟨g, rfl, .inr ⟨fkv fds, .inl e1, ?_⟩⟩⟩
        rw [hv]
        exact ⟨false, rfl, iteT ⟨.str z, rfl, .str g, rfl, by show 2 ≤ 1000; decide, bad q2⟩⟩
      · exact ⟨u, rfl, .ref p1, rfl, u, p1, rfl, .inr ⟨t, ht H1 s1, hk, false, rfl, iteT ⟨.str z, rfl, u, rfl, by show 2 ≤ 1000; decide, bad q3⟩⟩⟩
    · exact .inr ⟨hbad, q⟩
end
end NW
namespace NW
open PySem PySem.Spec PyProof.Rows L2
open TL (tl)
open StX (pa_star)
abbrev s_target_of : Stmt := topS 16
abbrev N_target_of : List Str := ["shape"]
theorem sc_target_of : FnScope N_target_of ["shape"] (defScope s_target_of) := ⟨rfl, rfl, rfl, by decide +kernel, rfl, by decide +kernel, by decide +kernel⟩
abbrev s_is_sure : Stmt := topS 17
abbrev N_is_sure : List Str := ["shape"]
theorem sc_is_sure : FnScope N_is_sure ["shape"] (defScope s_is_sure) := ⟨rfl, rfl, rfl, by decide +kernel, rfl, by decide +kernel, by decide +kernel⟩
/-- the base that a shape leads to, and how deep it lies -/
def Shp.tgt : Shp → Str
  | .base z => z
  | .sure s => s.tgt
  | .list s => s.tgt
def Shp.dep : Shp → Nat
  | .base _ => 0
  | .sure s => s.dep + 1
  | .list s => s.dep + 1
theorem okS_dep {l : List Str} : ∀ {s : Shp} {n : Nat} {o : Bool}, okS l n o s → s.dep ≤ n := by
  intro s
  induction s with
  | base z => intro n o _; exact Nat.zero_le _
  | sure s ih =>
    intro n o h
    cases n with
    | zero => exact h.elim
    | succ n => exact Nat.succ_le_succ (ih h.2)
  | list s ih =>
    intro n o h
    cases n with
    | zero => exact h.elim
    | succ n => exact Nat.succ_le_succ (ih (show okS l n false s from h))
section
variable {P : Program} {w : World} {K : PySem.W.Frag} {mg : Str → Option Value} {base : Heap}

def spTarget (n : Nat) : Sp := fun vs H Q _ => ∃ (v : V) (s : Shp), vs = [v] ∧ ShAt H v s ∧ s.dep ≤ n ∧ Q (.str s.tgt) H
theorem ok_target_of {f : Addr} {fd : FuncData} (D_target_of : Df K mg "target_of" s_target_of f fd ["shape"]) (T : Nms mg) : ∀ n : Nat, FnOk P w K mg base CX0 (n + 1) f fd ["shape"] (spTarget n) := by
  have tup : ∀ {H : Hp} {a : Addr} {xs : List V}, H a = some (.tup xs) → TyX K H (.ref a) (.type "tuple") := fun e => .base (.tup e)
  intro n
  induction n with
  | zero =>
    refine D_target_of.F.ok sc_target_of (fun vs H Q E h => ?_) (fun cdv A outer s H vs Q E hr h => ?_)
    · obtain ⟨v, s, rfl, _⟩ := h
      rfl
    · obtain ⟨v, s, rfl, hv, hd, q⟩ := h
      refine ⟨_, (pss_cons (ps_if (pt_val (pe_callB call_isi (by rfl) T.n_isinstance (by decide +kernel) (pa_cons (pv 0) (pa_cons (pe_bltn (v := .ty "tuple") (by rfl) T.n_tuple (by decide +kernel) rfl) pa_nil)))) (pss_one ps_never) pss_nil) (pss_one (ps_ret (pv 0)))), ?_⟩
      cases s with
      | base z =>
        obtain rfl : v = .str z := hv
        exact ⟨.str z, rfl, _, _, _, _, false, rfl, .ty "tuple", .base (.str z), kit_ty (by decide +kernel), false, rfl, iteF ⟨.str z, rfl, q⟩⟩
      | sure s => exact absurd hd (by show ¬ (s.dep + 1 ≤ 0); omega)
      | list s => exact absurd hd (by show ¬ (s.dep + 1 ≤ 0); omega)
  | succ n ih =>
    have G_target_of := ih
    refine D_target_of.F.ok sc_target_of (fun vs H Q E h => ?_) (fun cdv A outer s H vs Q E hr h => ?_)
    · obtain ⟨v, s, rfl, _⟩ := h
      rfl
    · obtain ⟨v, s, rfl, hv, hd, q⟩ := h
      refine ⟨_, (pss_cons (ps_if (pt_val (pe_callB call_isi (by rfl) T.n_isinstance (by decide +kernel) (pa_cons (pv 0) (pa_cons (pe_bltn (v := .ty "tuple") (by rfl) T.n_tuple (by decide +kernel) rfl) pa_nil))))
       (pss_one (ps_ret (pe_call G_target_of (hr.mono (by omega)) (by rfl) D_target_of.g D_target_of.F.kp D_target_of.b .nil pass0 (pa_cons (pe_ix ix_tup (pv 0) pe_int (fun _ _ => rfl)) pa_nil))))
       pss_nil)
      (pss_one (ps_ret (pv 0)))), ?_⟩
      cases s with
      | base z =>
        obtain rfl : v = .str z := hv
        exact ⟨.str z, rfl, _, _, _, _, false, rfl, .ty "tuple", .base (.str z), kit_ty (by decide +kernel), false, rfl, iteF ⟨.str z, rfl, q⟩⟩
      | sure s' =>
        obtain ⟨a, u, rfl, ha, hu⟩ := (show ∃ a u, v = .ref a ∧ H a = some (.tup [.str "sure", u]) ∧ ShAt H u s' from hv)
        exact ⟨.ref a, rfl, _, _, _, _, true, rfl, .ty "tuple", tup ha, kit_ty (by decide +kernel), true, rfl, iteT ⟨.ref a, rfl, a, _, 1, _, rfl, rfl, .inl (.inl ha), atI_nat (j := 1) rfl, u, s', rfl, hu, Nat.le_of_succ_le_succ hd, q⟩⟩
      | list s' =>
        obtain ⟨a, u, rfl, ha, hu⟩ := (show ∃ a u, v = .ref a ∧ H a = some (.tup [.str "list", u]) ∧ ShAt H u s' from hv)
        exact ⟨.ref a, rfl, _, _, _, _, true, rfl, .ty "tuple", tup ha, kit_ty (by decide +kernel), true, rfl, iteT ⟨.ref a, rfl, a, _, 1, _, rfl, rfl, .inl (.inl ha), atI_nat (j := 1) rfl, u, s', rfl, hu, Nat.le_of_succ_le_succ hd, q⟩⟩
def spIsSure : Sp := fun vs H Q _ => ∃ (v : V) (s : Shp), vs = [v] ∧ ShAt H v s ∧ Q (.bl s.isSure) H
theorem ok_is_sure {f : Addr} {fd : FuncData} (D : Df K mg "is_sure" s_is_sure f fd ["shape"]) (T : Nms mg) : FnOk P w K mg base CX0 1 f fd ["shape"] spIsSure := by
  refine D.F.ok sc_is_sure (fun vs H Q E h => ?_) (fun cdv A outer s H vs Q E hr h => ?_)
  · obtain ⟨v, s, rfl, _⟩ := h
    rfl
  · obtain ⟨v, s, rfl, hv, q⟩ := h
    refine ⟨_, (pss_one (ps_ret (pe_and (pe_callB call_isi (by rfl) T.n_isinstance (by decide +kernel) (pa_cons (pv 0) (pa_cons (pe_bltn (v := .ty "tuple") (by rfl) T.n_tuple (by decide +kernel) rfl) pa_nil))) (pe_one (pe_cmpR op_eq (pe_ix ix_tup (pv 0) pe_int (fun _ _ => rfl)) pe_str (nomark _)))))), ?_⟩
    cases s with
    | base z =>
      obtain rfl : v = .str z := hv
      exact ⟨.str z, rfl, _, _, _, _, false, rfl, .ty "tuple", .base (.str z), kit_ty (by decide +kernel), false, rfl, iteF q⟩
    | sure s' =>
      obtain ⟨a, u, rfl, ha, hu⟩ := (show ∃ a u, v = .ref a ∧ H a = some (.tup [.str "sure", u]) ∧ ShAt H u s' from hv)
      refine ⟨.ref a, rfl, _, _, _, _, true, rfl, .ty "tuple", .base (.tup ha), kit_ty (by decide +kernel), true, rfl, iteT ⟨.ref a, rfl, a, _, 0, _, rfl, rfl, .inl (.inl ha), atI_nat (j := 0) rfl, rfl, ?_⟩⟩
      rw [decide_eq_true rfl]
      exact q
    | list s' =>
      obtain ⟨a, u, rfl, ha, hu⟩ := (show ∃ a u, v = .ref a ∧ H a = some (.tup [.str "list", u]) ∧ ShAt H u s' from hv)
      refine ⟨.ref a, rfl, _, _, _, _, true, rfl, .ty "tuple", .base (.tup ha), kit_ty (by decide +kernel), true, rfl, iteT ⟨.ref a, rfl, a, _, 0, _, rfl, rfl, .inl (.inl ha), atI_nat (j := 0) rfl, rfl, ?_⟩⟩
      rw [decide_eq_false list_sure]
      exact q
end
end NW
namespace NW
open PySem PySem.Spec PyProof.Rows L2
open TL (tl)
open StX (pa_star)
abbrev s_Schema_target : Stmt := inClass (topS 35) 11
abbrev N_Schema_target : List Str := ["self", "base", "field"]
theorem sc_Schema_target : FnScope N_Schema_target ["self", "base", "field"] (defScope s_Schema_target) := ⟨rfl, rfl, rfl, by decide +kernel, rfl, by decide +kernel, by decide +kernel⟩
abbrev s_Schema_sure : Stmt := inClass (topS 35) 12
abbrev N_Schema_sure : List Str := ["self", "base", "field"]
theorem sc_Schema_sure : FnScope N_Schema_sure ["self", "base", "field"] (defScope s_Schema_sure) := ⟨rfl, rfl, rfl, by decide +kernel, rfl, by decide +kernel, by decide +kernel⟩section
variable {P : Program} {w : World} {K : PySem.W.Frag} {mg : Str → Option Value} {base : Heap}

theorem FdsOf.ok {ks : List KRow} {fs : List FRow} {us : List URow} {root z : Str} {fds : List Fld} {fl : Fld} (ok : SchOk ks fs us root) (h : FdsOf ks fs z fds) (m : fl ∈ fds) : okS (bsOf ks fs us) 4 false fl.2.2 := by
  rcases h with ⟨k, mk, _, rfl⟩ | ⟨_, f, mf, _, rfl⟩ | ⟨_, _, rfl⟩
  · exact (ok.kd k mk).sh fl m
  · exact (ok.fd f mf).sh fl m
  · cases m
def spVia (r : Shp → V) (K : PySem.W.Frag) (C CN CF : Addr) : Sp := fun vs H Q E => ∃ (x : Addr) (y u : V) (ks : List KRow) (fs : List FRow) (us : List URow) (root : Str), vs = [.ref x, y, u] ∧ BuiltAt C H x ks fs us root ∧ SchOk ks fs us root ∧
  ((∃ z, y = .str z ∧ z ∈ bsOf ks fs us ∧ ∀ (fds : List Fld), FdsOf ks fs z fds →
      ((∃ g, u = .str g ∧ ((∃ fl ∈ fds, fl.1 = g ∧ ∀ H', Same H H' → Q (r fl.2.2) H') ∨ (g ∉ fds.map (·.1) ∧ ∀ d H', Same H H' → H d = none → H' d = some (.xd [("field", u), ("base", y)]) → E (.ref CF) (some d) H'))) ∨
        ((∃ t, (∀ H', Same H H' → TyX K H' u t) ∧ PySem.W.kitOne K t (.type "str") = some false) ∧ ∀ d H', Same H H' → H d = none → H' d = some (.xd [("field", u), ("base", y)]) → E (.ref CF) (some d) H'))) ∨
    (((∃ z, y = .str z ∧ z ∉ bsOf ks fs us) ∨ ∃ t, TyX K H y t ∧ PySem.W.kitOne K t (.type "str") = some false) ∧ ∀ d H', Same H H' → H d = none → H' d = some (.xd [("base", y)]) → E (.ref CN) (some d) H'))

theorem ok_target {f f1 f2 C CN CF : Addr} {fd fd1 fd2 : FuncData} (F : Fun K "target" "Schema.target" s_Schema_target f fd) (M : Mt K C "shape_of" "Schema.shape_of" s_Schema_shape_of f1 fd1 ["self", "base", "field"]) (G_shape_of : FnOk P w K mg base (L2N.CX P w) 5 f1 fd1 ["self", "base", "field"] (spShapeOf K C CN CF))
    (D_target_of : Df K mg "target_of" s_target_of f2 fd2 ["shape"]) (G_target_of : FnOk P w K mg base CX0 5 f2 fd2 ["shape"] (spTarget 4)) (T : Nms mg) (L : ClT K C) : FnOk P w K mg base (L2N.CX P w) 6 f fd ["self", "base", "field"] (spVia (fun s => .str s.tgt) K C CN CF) := by
  refine okC F sc_Schema_target (fun vs H Q E h => ?_) (fun cdv A outer s H vs Q E hr h => ?_)
  · obtain ⟨x, y, u, ks, fs, us, root, rfl, _⟩ := h
    rfl
  · obtain ⟨x, y, u, ks, fs, us, root, rfl, Bt, ok, q⟩ := h
    refine ⟨_, (pss_one (ps_ret (pe_call G_target_of (hr.mono (by decide)) (by rfl) D_target_of.g D_target_of.F.kp D_target_of.b .nil pass0 (pa_cons (pe_methX (pv 0) L.cl M.m G_shape_of (hr.mono (by decide)) M.b (fun σ => L2N.passAt (L2N.takes_of rfl rfl rfl rfl) σ) (pa_cons (pv 1) (pa_cons (pv 2) pa_nil))) pa_nil)))), ?_⟩
    have Bt' := Bt
    obtain ⟨dx0, kt, ft, ut, ks', fs', us', hx, _⟩ := Bt'
    refine ⟨.ref x, rfl, x, dx0, _, rfl, hx, lkn _ _ _ _ (by decide +kernel) (by decide +kernel) (by decide +kernel) (by decide +kernel), y, rfl, u, rfl, x, y, u, ks, fs, us, root, rfl, Bt, ok, ?_⟩
    rcases q with ⟨z, rfl, hz, q⟩ | ⟨hbad, q⟩
    · refine .inl ⟨z, rfl, hz, fun fds hf => ?_⟩
      rcases q fds hf with ⟨g, rfl, ⟨fl, fm, e, q1⟩ | ⟨ng, q2⟩⟩ | ⟨hu, q3⟩
      · exact .inl ⟨g, rfl, .inl ⟨fl, fm, e, fun H' s1 sh => ⟨fl.2.1, fl.2.2, rfl, sh, okS_dep (hf.ok ok fm), q1 H' s1⟩⟩⟩
      · exact .inl ⟨g, rfl, .inr ⟨ng, q2⟩⟩
      · exact .inr ⟨hu, q3⟩
    · exact .inr ⟨hbad, q⟩

theorem ok_sure {f f1 f2 C CN CF : Addr} {fd fd1 fd2 : FuncData} (F : Fun K "sure" "Schema.sure" s_Schema_sure f fd) (M : Mt K C "shape_of" "Schema.shape_of" s_Schema_shape_of f1 fd1 ["self", "base", "field"]) (G_shape_of : FnOk P w K mg base (L2N.CX P w) 5 f1 fd1 ["self", "base", "field"] (spShapeOf K C CN CF))
    (D_is_sure : Df K mg "is_sure" s_is_sure f2 fd2 ["shape"]) (G_is_sure : FnOk P w K mg base CX0 1 f2 fd2 ["shape"] (spIsSure)) (T : Nms mg) (L : ClT K C) : FnOk P w K mg base (L2N.CX P w) 6 f fd ["self", "base", "field"] (spVia (fun s => .bl s.isSure) K C CN CF) := by
  refine okC F sc_Schema_sure (fun vs H Q E h => ?_) (fun cdv A outer s H vs Q E hr h => ?_)
  · obtain ⟨x, y, u, ks, fs, us, root, rfl, _⟩ := h
    rfl
  · obtain ⟨x, y, u, ks, fs, us, root, rfl, Bt, ok, q⟩ := h
    refine ⟨_, (pss_one (ps_ret (pe_call G_is_sure (hr.mono (by decide)) (by rfl) D_is_sure.g D_is_sure.F.kp D_is_sure.b .nil pass0 (pa_cons (pe_methX (pv 0) L.cl M.m G_shape_of (hr.mono (by decide)) M.b (fun σ => L2N.passAt (L2N.takes_of rfl rfl rfl rfl) σ) (pa_cons (pv 1) (pa_cons (pv 2) pa_nil))) pa_nil)))), ?_⟩
    have Bt' := Bt
    obtain ⟨dx0, kt, ft, ut, ks', fs', us', hx, _⟩ := Bt'
    refine ⟨.ref x, rfl, x, dx0, _, rfl, hx, lkn _ _ _ _ (by decide +kernel) (by decide +kernel) (by decide +kernel) (by decide +kernel), y, rfl, u, rfl, x, y, u, ks, fs, us, root, rfl, Bt, ok, ?_⟩
    rcases q with ⟨z, rfl, hz, q⟩ | ⟨hbad, q⟩
    · refine .inl ⟨z, rfl, hz, fun fds hf => ?_⟩
      rcases q fds hf with ⟨g, rfl, ⟨fl, fm, e, q1⟩ | ⟨ng, q2⟩⟩ | ⟨hu, q3⟩
      · exact .inl ⟨g, rfl, .inl ⟨fl, fm, e, fun H' s1 sh => ⟨fl.2.1, fl.2.2, rfl, sh, q1 H' s1⟩⟩⟩
      · exact .inl ⟨g, rfl, .inr ⟨ng, q2⟩⟩
      · exact .inr ⟨hu, q3⟩
    · exact .inr ⟨hbad, q⟩

end
end NW
namespace NW
open PySem PySem.Spec PyProof.Rows L2
open TL (tl)
open StX (pa_star)
abbrev s_Ltarget : Stmt := topS 44
abbrev N_Ltarget : List Str := ["_law_shape_here", "_law_k"]
theorem sc_Ltarget : FnScope N_Ltarget ["_law_shape_here"] (defScope s_Ltarget) := ⟨rfl, rfl, rfl, by decide +kernel, rfl, by decide +kernel, by decide +kernel⟩
abbrev s_Ltable : Stmt := topS 43
abbrev N_Ltable : List Str := ["_law_schema_here", "_law_base"]
theorem sc_Ltable : FnScope N_Ltable ["_law_schema_here", "_law_base"] (defScope s_Ltable) := ⟨rfl, rfl, rfl, by decide +kernel, rfl, by decide +kernel, by decide +kernel⟩section
variable {P : Program} {w : World} {K : PySem.W.Frag} {mg : Str → Option Value} {base : Heap}

def spLtarget : Sp := fun vs H Q _ => ∃ (v : V) (s : Shp), vs = [v] ∧ ShAt H v s ∧ s.dep ≤ 4 ∧ Q (.str s.tgt) H
theorem ok_Ltarget {f : Addr} {fd : FuncData} (D : Df K mg "_law_target" s_Ltarget f fd ["_law_shape_here"]) (T : Nms mg) : FnOk P w K mg base CX0 1 f fd ["_law_shape_here"] spLtarget := by
  refine D.F.ok sc_Ltarget (fun vs H Q E h => ?_) (fun cdv A outer s H vs Q E hr h => ?_)
  · obtain ⟨v, s, rfl, _⟩ := h
    rfl
  · obtain ⟨v, s, rfl, hv, hd, q⟩ := h
    refine ⟨_, (pss_cons (ps_for PassesOwn.never rfl (pi_range1 (by rfl) T.n_range (pa_cons pe_int pa_nil)) (pg_name (i := 1) sc_Ltarget.nd rfl (.inl rfl))
       (pss_one (ps_if (pt_not (pt_val (pe_callB call_isi (by rfl) T.n_isinstance (by decide +kernel) (pa_cons (pv 0) (pa_cons (pe_bltn (v := .ty "str") (by rfl) T.n_str (by decide +kernel) rfl) pa_nil)))))
         (pss_one (ps_set (i := 0) sc_Ltarget.nd rfl (.inl rfl) (pe_ix ix_tup (pv 0) pe_int (fun _ _ => rfl))))
         pss_nil)))
      (pss_one (ps_ret (pv 0)))), ?_⟩
    refine ⟨4, rfl, by decide, by decide, for_range (lo := 0) (n := 4) (fun i σ H' => ∃ (v' : V) (s' : Shp) (y : Option V), σ = [some v', y] ∧ H' = H ∧ ShAt H v' s' ∧ s'.tgt = s.tgt ∧ s'.dep + i ≤ 4) ⟨v, s, none, rfl, rfl, hv, rfl, hd⟩ ?_ ?_⟩
    · rintro i σ H' hi ⟨v', s', y, rfl, rfl, hv', ht, hd'⟩
      cases s' with
      | base z =>
        obtain rfl : v' = .str z := hv'
        exact ⟨.str z, rfl, _, _, _, _, true, rfl, .ty "str", .base (.str z), kit_ty (by decide +kernel), true, rfl, iteF ⟨.str z, .base z, _, rfl, rfl, rfl, ht, by show 0 + (i + 1) ≤ 4; omega⟩⟩
      | sure s' =>
        obtain ⟨a, u, rfl, ha, hu⟩ := (show ∃ a u, v' = .ref a ∧ H' a = some (.tup [.str "sure", u]) ∧ ShAt H' u s' from hv')
        exact ⟨.ref a, rfl, _, _, _, _, false, rfl, .ty "str", .base (.tup ha), kit_ty (by decide +kernel), false, rfl, iteT ⟨.ref a, rfl, a, _, 1, _, rfl, rfl, .inl (.inl ha), atI_nat (j := 1) rfl, u, s', _, rfl, rfl, hu, ht, by have : s'.dep + 1 + i ≤ 4 := hd'; omega⟩⟩
      | list s' =>
        obtain ⟨a, u, rfl, ha, hu⟩ := (show ∃ a u, v' = .ref a ∧ H' a = some (.tup [.str "list", u]) ∧ ShAt H' u s' from hv')
        exact ⟨.ref a, rfl, _, _, _, _, false, rfl, .ty "str", .base (.tup ha), kit_ty (by decide +kernel), false, rfl, iteT ⟨.ref a, rfl, a, _, 1, _, rfl, rfl, .inl (.inl ha), atI_nat (j := 1) rfl, u, s', _, rfl, rfl, hu, ht, by have : s'.dep + 1 + i ≤ 4 := hd'; omega⟩⟩
    · rintro σ H' ⟨v', s', y, rfl, rfl, hv', ht, hd'⟩
      cases s' with
      | base z =>
        obtain rfl : v' = .str z := hv'
        obtain rfl : z = s.tgt := ht
        exact ⟨.str _, rfl, q⟩
      | sure s' => exact absurd hd' (by show ¬ (s'.dep + 1 + 4 ≤ 4); omega)
      | list s' => exact absurd hd' (by show ¬ (s'.dep + 1 + 4 ≤ 4); omega)
def spLtable : Sp := fun vs H Q _ => ∃ (q kt ft ut : Addr) (ks : List KRow) (fs : List FRow) (us : List URow) (root z : Str), vs = [.ref q, .str z] ∧ SchT H q kt ft ut ks fs us root ∧
  ∀ (fds : List Fld) d H', FdsOf ks fs z fds → (∀ f ∈ fds, ShAt H' f.2.1 f.2.2) → Same H H' → H' d = some (.dK (fkv fds)) → Q (.ref d) H'
theorem ok_Ltable {f : Addr} {fd : FuncData} (D : Df K mg "_law_table" s_Ltable f fd ["_law_schema_here", "_law_base"]) (T : Nms mg) : FnOk P w K mg base CX0 1 f fd ["_law_schema_here", "_law_base"] spLtable := by
  refine D.F.ok sc_Ltable (fun vs H Q E h => ?_) (fun cdv A outer s H vs Q E hr h => ?_)
  · obtain ⟨q, kt, ft, ut, ks, fs, us, root, z, rfl, _⟩ := h
    rfl
  · obtain ⟨q, kt, ft, ut, ks, fs, us, root, z, rfl, ⟨hq, S, ok⟩, k⟩ := h
    have hu := hu_of hr
    refine ⟨_, (pss_cons (ps_if (pt_cmp (pc_din hu (pv 1) (pe_ix ix_tup (pv 0) pe_int (fun _ _ => rfl))) rfl)
       (pss_one (ps_ret (pe_ix ix_tup (pe_dget hu (pe_ix ix_tup (pv 0) pe_int (fun _ _ => rfl)) (pv 1) (fun _ _ => rfl)) pe_int (fun _ _ => rfl))))
       pss_nil)
      (pss_cons (ps_if (pt_cmp (pc_din hu (pv 1) (pe_ix ix_tup (pv 0) pe_int (fun _ _ => rfl))) rfl)
       (pss_one (ps_ret (pe_dget hu (pe_ix ix_tup (pv 0) pe_int (fun _ _ => rfl)) (pv 1) (fun _ _ => rfl))))
       pss_nil)
      (pss_one (ps_ret pe_dnewK)))), ?_⟩
    have hT : SqT K H q [.ref kt, .ref ft, .ref ut, .str root] := .inl (.inl hq)
    refine ⟨.str z, rfl, .ref q, rfl, q, _, 0, _, rfl, rfl, hT, atI_nat (j := 0) rfl, kt, _, rfl, .inl ⟨kkv ks, .inr z, .inl S.kd, rfl, rfl⟩, _, rfl, ?_⟩
    by_cases hk : z ∈ ks.map (·.nm)
    · obtain ⟨r, rm, rfl⟩ := List.mem_map.mp hk
      rw [kkv_val ok.ndk rm]
      have hr' := S.ka r rm
      exact iteT ⟨.ref q, rfl, q, _, 0, _, rfl, rfl, hT, atI_nat (j := 0) rfl, .str r.nm, rfl, kt, _, rfl, .inl ⟨kkv ks, .inr r.nm, .inl S.kd, rfl, (kkv_val ok.ndk rm).symm⟩, r.t, _, 1, _, rfl, rfl, .inl (.inl hr'.t), atI_nat (j := 1) rfl, k r.fds r.da H (.inl ⟨r, rm, rfl, rfl⟩) (fun f m => hr'.d.sh f m) (Same.refl _) hr'.d.at_⟩
    · have e0 : valV (kkv ks) (Sum.inr z) = none := valV_out (f := fun k : KRow => k.nm) (g := fun k => V.ref k.t) hk
      rw [e0]
      refine iteF ⟨.str z, rfl, .ref q, rfl, q, _, 1, _, rfl, rfl, hT, atI_nat (j := 1) rfl, ft, _, rfl, .inl ⟨fkvs fs, .inr z, .inl S.fd, rfl, rfl⟩, _, rfl, ?_⟩
      by_cases hf : z ∈ fs.map (·.nm)
      · obtain ⟨r, rm, rfl⟩ := List.mem_map.mp hf
        rw [fkvs_val ok.ndf rm]
        have hr' := S.fa r rm
        exact iteT ⟨.ref q, rfl, q, _, 1, _, rfl, rfl, hT, atI_nat (j := 1) rfl, .str r.nm, rfl, ft, _, rfl, .inl ⟨fkvs fs, .inr r.nm, .inl S.fd, rfl, (fkvs_val ok.ndf rm).symm⟩, k r.fds r.da H (.inr (.inl ⟨hk, r, rm, rfl, rfl⟩)) (fun f m => hr'.sh f m) (Same.refl _) hr'.at_⟩
      · have e1 : valV (fkvs fs) (Sum.inr z) = none := valV_out (f := fun k : FRow => k.nm) (g := fun k => V.ref k.da) hf
        rw [e1]
        exact iteF fun p np => k [] p _ (.inr (.inr ⟨hk, hf, rfl⟩)) (fun _ m => nomatch m) (same_new np) upd_same
end
end NW
namespace NW
open PySem PySem.Spec PyProof.Rows L2
/-! ### try with several clauses that bind the caught error to one name -/
abbrev SuiteT := Addr → Value → Option Addr → TS
/-- behind a suite the name is gone -/
def Ends.gone (i : Nat) (D : Ends) : Ends := { nx := fun t G => D.nx (t.set i none) G, rt := D.rt, bk := fun t G => D.bk (t.set i none) G, ct := fun t G => D.ct (t.set i none) G }
def wAm (K : PySem.W.Frag) (i : Nat) (out : WX) (D : Ends) : List (Value × SuiteT) → WX
  | [] => out
  | q :: r => fun cl d t G => ∃ yes, PySem.W.exmOne K cl q.1 = some yes ∧ (yes = true → ∀ a, G a = none → q.2 a cl d (Ends.gone i D) (t.set i (some (.ref a))) G) ∧ (yes = false → wAm K i out D r cl d t G)
inductive AsOk (X : Cx) (n : Str) : List ExceptHandler → List (Value × SuiteT) → Prop
  | nil : AsOk X n [] []
  | cons {y : Str} {q : Value × SuiteT} {b1 : Stmt} {bs : List Stmt} {p1 p2 : Pos} {hs : List ExceptHandler} {l : List (Value × SuiteT)} (named : Names X y q.1)
      (su : ∀ (a : Addr) (ob : Obj) (cl : Value) (d : Option Addr) (held : List (Addr × Obj)), L2N.Zn cl d ob → (∃ z, ob.data = .fields z) → PSs (X.suite a ((a, ob) :: held)) (b1 :: bs) (q.2 a cl d)) (rest : AsOk X n hs l) :
      AsOk X n (.ExceptHandler (some (.Name y p1)) (some n) (b1 :: bs) p2 :: hs) (q :: l)
section
variable {X : Cx} {n : Str} {i : Nat} {body : List Stmt} {g1 : ExceptHandler} {gs : List ExceptHandler} {l : List (Value × SuiteT)} {ps : Pos} {tb : WX → TS} {out : WX}
theorem ps_try_ams (st : X.stack = X.env :: X.outer) (fr : X.env.frame = some X.env.locals) (nd : X.N.Nodup) (at_ : X.N[i]? = some n) (lo : X.env.kindOf n = some .local) (tk : L2N.Takes X out)
    (hb : ∀ (W : WX) (held : List (Addr × Obj)) (xe : Value → Shared → Prop), L2N.Takes (X.tr held xe) W → PassesOwn (model X.prog X.w) X.A X.env xe → PSs (X.tr held xe) body (tb W))
    (hh : AsOk X n (g1 :: gs) l) : PS X (.Try body (g1 :: gs) [] [] ps) (fun D t G => tb (wAm X.K i out D l) D t G) := by
  refine ⟨fun pins s t G D I h => ?_⟩
  have ok := I.ok
  have fram : X.A.frames = some (X.env :: X.outer) := by rw [ok.frames, st]
  have islo : Loc X.env.scope n := .inl lo
  refine wpAny_Try_except ?_
  refine wpAny_mono ((hb (wAm X.K i out D l) (X.pn ++ pins) (fun e s₁ => wpAny (model X.prog X.w) X.A (noteFrame e X.env) (fun _ s₂ => wpAny (model X.prog X.w) X.A (setFlight e none) (fun _ s₃ => wpAny (model X.prog X.w) X.A (handleBy e X.env (g1 :: gs)) (SP X pins D) X.xe s₃) X.xe s₂) X.xe s₁) (fun u s' air => ?_) PassesOwn.looking).run [] s t G D (I.toTry _) h) (fun f s1 end1 => ?_) (fun e s1 z => z)
  · obtain ⟨a, B, sI, pns, t', G', cl, d, rfl, J1, nb, up, sky, na, os, ag, ww⟩ := air
    have J : Inv X pins t' G' sI := J1.ofTry ok
    have sky' : Sky B (X.env :: X.outer) a (L2N.Zn cl d) X.env.locals s'.heap := by rw [← st]; exact sky
    show wpAny _ X.A (noteFrame (.ref a) X.env) _ _ _
    refine L2N.Sky.land L2N.Zn.steady fram fr sky' fun k3 fl3 up3 => ?_
    have J3 : Inv X pins t' G' { s' with heap := k3 } := J.landed nb fl3.1 (up.trans up3) os ag
    obtain ⟨ob3, z3, ge3, zn3, da3⟩ := fl3.there
    have nfr : a ∉ frs (X.env :: X.outer) := fun mem => by
      obtain ⟨_, o', ge', hnf⟩ := fl3.2.2.1.mem mem
      rw [ge3] at ge'
      cases ge'
      exact hnf _ da3
    have nL : a ≠ X.env.locals := fun z => nfr (List.mem_filterMap.mpr ⟨X.env, List.mem_cons_self, by rw [fr, z]⟩)
    have nF : a ∉ X.fs := fun mem => by
      obtain ⟨e, m, q⟩ := List.mem_filterMap.mp mem
      exact nfr (List.mem_filterMap.mpr ⟨e, List.mem_cons_of_mem _ m, q⟩)
    have S3 := J3.suite ge3 da3 na nL nF
    have walk : ∀ {hs2 : List ExceptHandler} {l2 : List (Value × SuiteT)}, AsOk X n hs2 l2 → wAm X.K i out D l2 cl d t' G' → wpAny (model X.prog X.w) X.A (handleBy (.ref a) X.env hs2) (SP X pins D) X.xe { s' with heap := k3 } := by
      intro hs2 l2 k
      induction k with
      | nil =>
        intro w2
        refine wpAny_handleBy_nil ?_
        obtain ⟨_, _, _, ob, z, T, oT, ts', ge, zn, da, h1, _⟩ := id fl3
        unfold PySem.passOn
        refine wpAny_bind (wpAny_field ge da h1 ?_)
        rw [if_neg (show ¬ ((Value.ref T == Value.none) = true) from by simp)]
        have over : wpAny (model X.prog X.w) X.A (setFlight (.ref a) X.env.frame) (fun _ s4 => wpAny (model X.prog X.w) X.A (throw (.ref a) : Sem Flow) (SP X pins D) X.xe s4) X.xe { s' with heap := k3 } := by
          rw [fr]
          refine HandSPX.setFlight_upZ fl3 fun h4 hh4 up4 => wpAny_throw (tk _ _ ?_)
          exact ⟨a, B, sI, pins, t', G', cl, d, rfl, J, nb, (up.trans up3).trans up4, .inr (.inr (by rw [st]; exact hh4)), na, os, ag, w2⟩
        first
          | exact wpAny_bind (wpAny_pure (wpAny_bind over))
          | exact wpAny_bind over
      | @cons y q b1 bs p1 p2 hs3 l3 named su rest ih =>
        intro w2
        obtain ⟨yes, is, y1, y0⟩ := w2
        refine wpAny_handleBy_cons (codeAny_handlers_test ?_) (by intro z; cases z)
        have LT : PySem.W.Looks (model X.prog X.w) k3 (typeOf (.ref a)) cl := fun A Q E s k z => wpAny_typeOf_ref (k _ _ ge3) (by rw [zn3.1]; exact z)
        have LM := PySem.W.exm_one (M := model X.prog X.w) J3.kIn LT is
        have tst : ∀ {Q E : Value → Shared → Prop}, Q q.1 { s' with heap := k3 } → wpAny (model X.prog X.w) (X.A.mark (some (.ref a))) (eval (.Name y p1) X.env) Q E { s' with heap := k3 } := fun {Q E} z => by
          obtain ⟨hg, dbg, hm | ⟨hm, hv, hn⟩⟩ := named
          · exact ld_glob (X := X.suite a ((a, ob3) :: (X.pn ++ pins))) S3 hg hm z dbg
          · exact ld_blt (X := X.suite a ((a, ob3) :: (X.pn ++ pins))) S3 hg hm hv z hn dbg
        refine tst (LM.here ?_)
        cases yes with
        | true =>
          refine codeAny_handlers_suite_as (HandSPX.lands_againZ fl3 fun k4 fl4 up4 => ?_)
          have J4 : Inv X pins t' G' { s' with heap := k4 } := J.landed nb fl4.1 ((up.trans up3).trans up4) os ag
          obtain ⟨ob4, z4, ge4, zn4, da4⟩ := fl4.there
          have S4 := J4.suite ge4 da4 na nL nF
          refine store_ok (X := X.suite a ((a, ob4) :: (X.pn ++ pins))) (v := .ref a) S4 nd at_ islo rfl (fun s5 S5 => ?_) (.inr lo)
          refine wpAny_mono ((su a ob4 cl d (X.pn ++ pins) zn4 ⟨_, da4⟩).run [] s5 _ G' _ S5 (y1 rfl a na)) (fun f s6 hsp => ?_) (fun _ _ z => z.elim)
          have unb : ∀ {t6 : L2.St} {G6 : Hp} {Q : Shared → Prop}, Inv (X.suite a ((a, ob4) :: (X.pn ++ pins))) [] t6 G6 s6 → (∀ s7, Inv X pins (t6.set i none) G6 s7 → Q s7) → wpAny (model X.prog X.w) X.A (do bindName X.env n .none; unbindBehindTheSuite X.env n p2) (fun _ s7 => Q s7) X.xe s6 := fun {t6 G6 Q} S6 hq => gone_ok (S6.unsuite ok) nd at_ lo hq
          cases f with
          | ret u => obtain ⟨v6, t6, G6, S6, r6, q6⟩ := hsp; exact unb S6 fun s7 J7 => ⟨_, _, _, J7, r6, q6⟩
          | next => obtain ⟨t6, G6, S6, q6⟩ := hsp; exact unb S6 fun s7 J7 => ⟨_, _, J7, q6⟩
          | brk => obtain ⟨t6, G6, S6, q6⟩ := hsp; exact unb S6 fun s7 J7 => ⟨_, _, J7, q6⟩
          | cont => obtain ⟨t6, G6, S6, q6⟩ := hsp; exact unb S6 fun s7 J7 => ⟨_, _, J7, q6⟩
        | false =>
          show wpAny _ X.A (handleBy (.ref a) X.env hs3) _ _ _
          exact ih (y0 rfl)
    exact walk hh ww
  · cases f with
    | ret u => obtain ⟨v, t', G', J', r, q⟩ := end1; exact ⟨v, t', G', J'.ofTry ok, r, q⟩
    | next => obtain ⟨t', G', J', q⟩ := end1; exact wpAny_execs_nil ⟨t', G', J'.ofTry ok, q⟩
    | brk => obtain ⟨t', G', J', q⟩ := end1; exact ⟨t', G', J'.ofTry ok, q⟩
    | cont => obtain ⟨t', G', J', q⟩ := end1; exact ⟨t', G', J'.ofTry ok, q⟩
end
end NW
namespace NW
open PySem PySem.Spec PyProof.Rows L2
open TL (tl)
open StX (pa_star)
abbrev s_Lasked : Stmt := topS 49
abbrev N_Lasked : List Str := ["_law_built", "_law_base", "_law_field", "_law_way", "e"]
theorem sc_Lasked : FnScope N_Lasked ["_law_built", "_law_base", "_law_field", "_law_way"] (defScope s_Lasked) := ⟨rfl, rfl, rfl, by decide +kernel, rfl, by decide +kernel, by decide +kernel⟩
theorem takesA {X : Cx} : L2N.Takes X (fun _ _ _ _ => False) := fun _ _ x => by
  obtain ⟨_, _, _, _, _, _, _, _, _, _, _, _, _, _, _, _, z⟩ := x
  exact z.elim
section
variable {P : Program} {w : World} {K : PySem.W.Frag} {mg : Str → Option Value} {base : Heap}
/-- what the n-th question tells of a field -/
def toldV (n : Nat) (fl : Fld) : V := if n = 0 then fl.2.1 else if n = 1 then .str fl.2.2.tgt else .bl fl.2.2.isSure
/-- a new tuple -/
def NewT (H : Hp) (xs : List V) (Q : VK) : Prop := ∀ (p : Addr) (H' : Hp), Same H H' → H p = none → H' p = some (.tup xs) → Q (.ref p) H'
def AskedAt (K : PySem.W.Frag) (ks : List KRow) (fs : List FRow) (us : List URow) (H : Hp) (y u : V) (n : Nat) (Q : VK) : Prop :=
  (∃ z, y = .str z ∧ z ∈ bsOf ks fs us ∧ ∀ (fds : List Fld), FdsOf ks fs z fds →
      ((∃ g, u = .str g ∧ ((∃ fl ∈ fds, fl.1 = g ∧ NewT H [.str "given", toldV n fl] Q) ∨ (g ∉ fds.map (·.1) ∧ NewT H [.str "field", y, u] Q))) ∨
        ((∃ t, (∀ H', Same H H' → TyX K H' u t) ∧ PySem.W.kitOne K t (.type "str") = some false) ∧ NewT H [.str "field", y, u] Q))) ∨
    (((∃ z, y = .str z ∧ z ∉ bsOf ks fs us) ∨ ∃ t, TyX K H y t ∧ PySem.W.kitOne K t (.type "str") = some false) ∧ NewT H [.str "base", y] Q)
def spLasked (K : PySem.W.Frag) (C : Addr) : Sp := fun vs H Q _ => ∃ (x : Addr) (y u : V) (m : Int) (n : Nat) (ks : List KRow) (fs : List FRow) (us : List URow) (root : Str), vs = [.ref x, y, u, .int m] ∧ m = (n : Int) ∧ n < 3 ∧ BuiltAt C H x ks fs us root ∧ SchOk ks fs us root ∧ AskedAt K ks fs us H y u n Q
theorem ok_Lasked {f f1 f2 f3 C CN CF : Addr} {fd fd1 fd2 fd3 : FuncData} (D : Df K mg "_law_asked" s_Lasked f fd ["_law_built", "_law_base", "_law_field", "_law_way"])
    (M_shape_of : Mt K C "shape_of" "Schema.shape_of" s_Schema_shape_of f1 fd1 ["self", "base", "field"]) (G_shape_of : FnOk P w K mg base (L2N.CX P w) 5 f1 fd1 ["self", "base", "field"] (spShapeOf K C CN CF))
    (M_target : Mt K C "target" "Schema.target" s_Schema_target f2 fd2 ["self", "base", "field"]) (G_target : FnOk P w K mg base (L2N.CX P w) 6 f2 fd2 ["self", "base", "field"] (spVia (fun s => .str s.tgt) K C CN CF))
    (M_sure : Mt K C "sure" "Schema.sure" s_Schema_sure f3 fd3 ["self", "base", "field"]) (G_sure : FnOk P w K mg base (L2N.CX P w) 6 f3 fd3 ["self", "base", "field"] (spVia (fun s => .bl s.isSure) K C CN CF))
    (T : Nms mg) (L : ClT K C) (gN : mg "NoBase" = some (.ref CN)) (gF : mg "NoField" = some (.ref CF)) (XN : XfC K CN) (XF : XfC K CF)
    (nb : PySem.W.findIn K (.ref CN) "base" = some none) (fb : PySem.W.findIn K (.ref CF) "base" = some none) (ff : PySem.W.findIn K (.ref CF) "field" = some none)
    (eNN : PySem.W.exmOne K (.ref CN) (.ref CN) = some true) (eFN : PySem.W.exmOne K (.ref CF) (.ref CN) = some false) (eFF : PySem.W.exmOne K (.ref CF) (.ref CF) = some true) :
    FnOk P w K mg base CX0 7 f fd ["_law_built", "_law_base", "_law_field", "_law_way"] (spLasked K C) := by
  refine D.F.ok sc_Lasked (fun vs H Q E h => ?_) (fun cdv A outer s H vs Q E hr h => ?_)
  · obtain ⟨x, y, u, m, n, ks, fs, us, root, rfl, _⟩ := h
    rfl
  · obtain ⟨x, y, u, _, n, ks, fs, us, root, rfl, rfl, hn, Bt, ok, q⟩ := h
    refine ⟨_, (pss_one (ps_try_ams (i := 4) rfl rfl sc_Lasked.nd rfl rfl takesA
      (fun W pn xe tk _ => (pss_cons (ps_if (pt_cmpR op_eq (pv 3) pe_int (nomark _))
          (pss_one (ps_ret (pe_tup (pa_cons pe_str (pa_cons (pe_methX (pv 0) L.cl M_shape_of.m G_shape_of (hr.mono (by decide)) M_shape_of.b (fun σ => L2N.passAt tk σ) (pa_cons (pv 1) (pa_cons (pv 2) pa_nil))) pa_nil)))))
          pss_nil)
        (pss_cons (ps_if (pt_cmpR op_eq (pv 3) pe_int (nomark _))
          (pss_one (ps_ret (pe_tup (pa_cons pe_str (pa_cons (pe_methX (pv 0) L.cl M_target.m G_target (hr.mono (by decide)) M_target.b (fun σ => L2N.passAt tk σ) (pa_cons (pv 1) (pa_cons (pv 2) pa_nil))) pa_nil)))))
          pss_nil)
        (pss_one (ps_ret (pe_tup (pa_cons pe_str (pa_cons (pe_methX (pv 0) L.cl M_sure.m G_sure (hr.mono (by decide)) M_sure.b (fun σ => L2N.passAt tk σ) (pa_cons (pv 1) (pa_cons (pv 2) pa_nil))) pa_nil))))))))
      (.cons (q := (.ref CN, fun a cls d => _)) ⟨rfl, by decide, .inl gN⟩ (fun a oe cls d pn hz hf => (pss_one (ps_ret (pe_tup (pa_cons pe_str (pa_cons (pe_xf XN nb hz.zc hf (pv 4)) pa_nil))))))
      (.cons (q := (.ref CF, fun a cls d => _)) ⟨rfl, by decide, .inl gF⟩ (fun a oe cls d pn hz hf => (pss_one (ps_ret (pe_tup (pa_cons pe_str (pa_cons (pe_xf XF fb hz.zc hf (pv 4)) (pa_cons (pe_xf XF ff hz.zc hf (pv 4)) pa_nil)))))))
      .nil)))), ?_⟩
    have Bt' := Bt
    obtain ⟨dx0, kt, ft, ut, ks', fs', us', hx, _⟩ := Bt'
    have fin : ∀ {H1 : Hp} {xs : List V} {Q1 : VK}, NewT H xs Q1 → Same H H1 → ∀ p, H1 p = none → Q1 (.ref p) (upd H1 p (.tup xs)) := fun k s1 p np => k p _ (s1.trans (same_new np)) (s1.free np) upd_same
    have hS : ∀ k : Nat, k ≤ 1000 → k ≤ sizeLine := fun k h => Nat.le_trans h (by decide)
    match n, hn with
    | 0, _ =>
      refine ⟨.int 0, rfl, rfl, true, rfl, iteT ?_⟩
      refine ⟨.ref x, rfl, x, dx0, _, rfl, hx, lkn _ _ _ _ (by decide +kernel) (by decide +kernel) (by decide +kernel) (by decide +kernel), y, rfl, u, rfl, x, y, u, ks, fs, us, root, rfl, Bt, ok, ?_⟩
      rcases q with ⟨z, rfl, hz, q⟩ | ⟨hbad, q⟩
      · refine .inl ⟨z, rfl, hz, fun fds hf => ?_⟩
        rcases q fds hf with ⟨g, rfl, ⟨fl, fm, e, q1⟩ | ⟨ng, q2⟩⟩ | ⟨hu, q3⟩
        · exact .inl ⟨g, rfl, .inl ⟨fl, fm, e, fun H' s1 sh => ⟨hS 2 (by decide), fin q1 s1⟩⟩⟩
        · exact .inl ⟨g, rfl, .inr ⟨ng, fun d H' s1 nd ed => ⟨false, eFN, (fun z => nomatch z), fun _ => ⟨true, eFF, fun _ e ne => ⟨.ref e, rfl, rfl, rfl, d, _, _, rfl, ed, rfl, .ref e, rfl, rfl, rfl, d, _, _, rfl, ed, rfl, hS 3 (by decide), fin q2 s1⟩, fun z => nomatch z⟩⟩⟩⟩
        · exact .inr ⟨hu, fun d H' s1 nd ed => ⟨false, eFN, (fun z => nomatch z), fun _ => ⟨true, eFF, fun _ e ne => ⟨.ref e, rfl, rfl, rfl, d, _, _, rfl, ed, rfl, .ref e, rfl, rfl, rfl, d, _, _, rfl, ed, rfl, hS 3 (by decide), fin q3 s1⟩, fun z => nomatch z⟩⟩⟩
      · exact .inr ⟨hbad, fun d H' s1 nd ed => ⟨true, eNN, fun _ e ne => ⟨.ref e, rfl, rfl, rfl, d, _, _, rfl, ed, rfl, hS 2 (by decide), fin q s1⟩, fun z => nomatch z⟩⟩
    | 1, _ =>
      refine ⟨.int 1, rfl, rfl, false, rfl, iteF ⟨.int 1, rfl, rfl, true, rfl, iteT ?_⟩⟩
      refine ⟨.ref x, rfl, x, dx0, _, rfl, hx, lkn _ _ _ _ (by decide +kernel) (by decide +kernel) (by decide +kernel) (by decide +kernel), y, rfl, u, rfl, x, y, u, ks, fs, us, root, rfl, Bt, ok, ?_⟩
      rcases q with ⟨z, rfl, hz, q⟩ | ⟨hbad, q⟩
      · refine .inl ⟨z, rfl, hz, fun fds hf => ?_⟩
        rcases q fds hf with ⟨g, rfl, ⟨fl, fm, e, q1⟩ | ⟨ng, q2⟩⟩ | ⟨hu, q3⟩
        · exact .inl ⟨g, rfl, .inl ⟨fl, fm, e, fun H' s1 => ⟨hS 2 (by decide), fin q1 s1⟩⟩⟩
        · exact .inl ⟨g, rfl, .inr ⟨ng, fun d H' s1 nd ed => ⟨false, eFN, (fun z => nomatch z), fun _ => ⟨true, eFF, fun _ e ne => ⟨.ref e, rfl, rfl, rfl, d, _, _, rfl, ed, rfl, .ref e, rfl, rfl, rfl, d, _, _, rfl, ed, rfl, hS 3 (by decide), fin q2 s1⟩, fun z => nomatch z⟩⟩⟩⟩
        · exact .inr ⟨hu, fun d H' s1 nd ed => ⟨false, eFN, (fun z => nomatch z), fun _ => ⟨true, eFF, fun _ e ne => ⟨.ref e, rfl, rfl, rfl, d, _, _, rfl, ed, rfl, .ref e, rfl, rfl, rfl, d, _, _, rfl, ed, rfl, hS 3 (by decide), fin q3 s1⟩, fun z => nomatch z⟩⟩⟩
      · exact .inr ⟨hbad, fun d H' s1 nd ed => ⟨true, eNN, fun _ e ne => ⟨.ref e, rfl, rfl, rfl, d, _, _, rfl, ed, rfl, hS 2 (by decide), fin q s1⟩, fun z => nomatch z⟩⟩
    | 2, _ =>
      refine ⟨.int 2, rfl, rfl, false, rfl, iteF ⟨.int 2, rfl, rfl, false, rfl, iteF ?_⟩⟩
      refine ⟨.ref x, rfl, x, dx0, _, rfl, hx, lkn _ _ _ _ (by decide +kernel) (by decide +kernel) (by decide +kernel) (by decide +kernel), y, rfl, u, rfl, x, y, u, ks, fs, us, root, rfl, Bt, ok, ?_⟩
      rcases q with ⟨z, rfl, hz, q⟩ | ⟨hbad, q⟩
      · refine .inl ⟨z, rfl, hz, fun fds hf => ?_⟩
        rcases q fds hf with ⟨g, rfl, ⟨fl, fm, e, q1⟩ | ⟨ng, q2⟩⟩ | ⟨hu, q3⟩
        · exact .inl ⟨g, rfl, .inl ⟨fl, fm, e, fun H' s1 => ⟨hS 2 (by decide), fin q1 s1⟩⟩⟩
        · exact .inl ⟨g, rfl, .inr ⟨ng, fun d H' s1 nd ed => ⟨false, eFN, (fun z => nomatch z), fun _ => ⟨true, eFF, fun _ e ne => ⟨.ref e, rfl, rfl, rfl, d, _, _, rfl, ed, rfl, .ref e, rfl, rfl, rfl, d, _, _, rfl, ed, rfl, hS 3 (by decide), fin q2 s1⟩, fun z => nomatch z⟩⟩⟩⟩
        · exact .inr ⟨hu, fun d H' s1 nd ed => ⟨false, eFN, (fun z => nomatch z), fun _ => ⟨true, eFF, fun _ e ne => ⟨.ref e, rfl, rfl, rfl, d, _, _, rfl, ed, rfl, .ref e, rfl, rfl, rfl, d, _, _, rfl, ed, rfl, hS 3 (by decide), fin q3 s1⟩, fun z => nomatch z⟩⟩⟩
      · exact .inr ⟨hbad, fun d H' s1 nd ed => ⟨true, eNN, fun _ e ne => ⟨.ref e, rfl, rfl, rfl, d, _, _, rfl, ed, rfl, hS 2 (by decide), fin q s1⟩, fun z => nomatch z⟩⟩
end
end NW
namespace NW
open PySem PySem.Spec PyProof.Rows L2
/-! ### new tuples in a list, values that are the same as themselves -/
/-- a comprehension whose items are new tuples, the i-th one of T i -/
theorem lc_tups {J : It} {n j : Nat} {G : Hp → Prop} {Y : Nat → Hp → V → Hp → Prop} (w : Walk J n G Y) {te : TE} {vs : List Nat} {σ : L2.St} {H1 : Hp} {Da : Addr} {Qd : Hp → Prop} (Itm : Nat → V → Prop) (T : Nat → List V)
    (hY : ∀ i H x H', i < n → Y i H x H' → H' = H ∧ Itm i x) (hG : ∀ H, Same H1 H → G H) (nD : H1 Da = none) (few : n ≤ 1000) (hw : ∀ x, wipe ((wipe σ vs).set j (some x)) vs = wipe σ vs)
    (hs : ∀ i x H (Q : VK), i < n → Itm i x → Same H1 H → NewT H (T i) Q → te ((wipe σ vs).set j (some x)) H Q)
    (hd : ∀ H (ps : List Addr), Same H1 H → H Da = some (.lst (ps.map V.ref)) → ps.length = n → (∀ (i : Nat) p, ps[i]? = some p → H p = some (.tup (T i))) → Qd H) :
    ∃ W : Nat → Nat → Hp → Prop, (∃ m, W 0 m (upd H1 Da (.lst []))) ∧ ∀ i m H, W i m H →
      (J.stop i H ∧ Qd H) ∨ (J.go i H ∧ ∃ Nx : Hp → Prop, (∀ H', Nx H' → ∃ m', m' < m ∧ W (i + 1) m' H') ∧ ∀ x H', J.yld i H x H' → gName j x (wipe σ vs) H' fun σ2 H2 => wipe σ2 vs = wipe σ vs ∧ tYes σ2 H2 fun b H3 =>
        if b = true then te σ2 H3 fun y H4 => ∃ acc, H4 Da = some (.lst acc) ∧ acc.length < sizeLine ∧ Nx (upd H4 Da (.lst (acc ++ [y]))) else Nx H3) := by
  refine lc_it w (fun i H' => Same H1 H' ∧ ∃ ps : List Addr, H' Da = some (.lst (ps.map V.ref)) ∧ ps.length = i ∧ ∀ (k : Nat) p, ps[k]? = some p → H' p = some (.tup (T k))) ⟨same_new nD, [], upd_same, rfl, fun k p e => nomatch e⟩ (fun i H _ p => hG H p.1) ?_ (fun H ⟨s, ps, e, hl, al⟩ => hd H ps s e hl al)
  rintro i x H H' hi ⟨sm, ps, e, hl, al⟩ y
  obtain ⟨rfl, it⟩ := hY i H x H' hi y
  refine ⟨hw x, lcT (hs i x _ _ hi it sm fun p H4 s4 np ep => ⟨ps.map V.ref, s4 _ _ e, ?_, same_upd (sm.trans s4) nD, ps ++ [p], ?_, ?_, ?_⟩)⟩
  · rw [List.length_map, hl]
    exact Nat.lt_of_le_of_lt (show i ≤ 1000 by omega) (by decide)
  · rw [upd_same, List.map_append]
    rfl
  · rw [List.length_append, hl]
    rfl
  · intro k q ek
    have other : ∀ {a : Addr} {xs : List V}, H4 a = some (.tup xs) → (upd H4 Da (.lst (ps.map V.ref ++ [V.ref p]))) a = some (.tup xs) := fun {a xs} ha => by
      rw [upd_ne (ne_of ha (s4 _ _ e) (by intro z; cases z))]
      exact ha
    by_cases hk : k < ps.length
    · rw [List.getElem?_append_left hk] at ek
      exact other (s4 _ _ (al k q ek))
    · rw [List.getElem?_append_right (Nat.le_of_not_lt hk)] at ek
      have hk0 : k - ps.length = 0 := by
        cases h : k - ps.length with
        | zero => rfl
        | succ m => rw [h] at ek; cases ek
      rw [hk0] at ek
      cases ek
      have : k = i := by omega
      subst this
      exact other ep
/-- the same data, m deep, as itself -/
theorem SameV.le {H : Hp} {x y : V} : ∀ {n m : Nat}, n ≤ m → SameV n H x y → SameV m H x y := by
  intro n m h s
  induction m with
  | zero => rw [show n = 0 by omega] at s; exact s
  | succ m ih =>
    by_cases e : n = m + 1
    · rw [e] at s; exact s
    · exact (ih (by omega)).up
theorem ShAt.self {H : Hp} : ∀ {s : Shp} {v : V}, ShAt H v s → SameV s.dep H v v := by
  intro s
  induction s with
  | base z => rintro v rfl; exact ⟨rfl, .inr (.inr (.inr ⟨z, rfl⟩))⟩
  | sure s ih =>
    rintro v ⟨a, u, rfl, ha, hu⟩
    refine .inr (.inl ⟨a, a, _, _, rfl, rfl, .inr ⟨ha, ha⟩, rfl, by show 2 ≤ 1000; decide, fun i x y ex ey => ?_⟩)
    rw [ex] at ey
    cases ey
    match i, ex with
    | 0, ex => cases ex; exact SameV.le (Nat.zero_le _) ⟨rfl, .inr (.inr (.inr ⟨_, rfl⟩))⟩
    | 1, ex => cases ex; exact ih hu
    | i + 2, ex => cases ex
  | list s ih =>
    rintro v ⟨a, u, rfl, ha, hu⟩
    refine .inr (.inl ⟨a, a, _, _, rfl, rfl, .inr ⟨ha, ha⟩, rfl, by show 2 ≤ 1000; decide, fun i x y ex ey => ?_⟩)
    rw [ex] at ey
    cases ey
    match i, ex with
    | 0, ex => cases ex; exact SameV.le (Nat.zero_le _) ⟨rfl, .inr (.inr (.inr ⟨_, rfl⟩))⟩
    | 1, ex => cases ex; exact ih hu
    | i + 2, ex => cases ex
theorem SameV.strV {H : Hp} {n : Nat} {z : Str} : SameV n H (.str z) (.str z) := SameV.le (Nat.zero_le n) ⟨rfl, .inr (.inr (.inr ⟨z, rfl⟩))⟩
theorem SameV.blV {H : Hp} {n : Nat} {b : Bool} : SameV n H (.bl b) (.bl b) := SameV.le (Nat.zero_le n) ⟨rfl, .inr (.inl ⟨b, rfl⟩)⟩
/-- two lists of tuples that hold the same -/
theorem SameV.tups {H : Hp} {n : Nat} {a b : Addr} {ps qs : List Addr} {T : Nat → List V} (ha : H a = some (.lst (ps.map V.ref))) (hb : H b = some (.lst (qs.map V.ref))) (hl : ps.length = qs.length) (few : qs.length ≤ 1000)
    (hp : ∀ (i : Nat) p, ps[i]? = some p → H p = some (.tup (T i))) (hq : ∀ (i : Nat) p, qs[i]? = some p → H p = some (.tup (T i))) (ht : ∀ i, i < qs.length → (T i).length ≤ 1000 ∧ ∀ v ∈ T i, SameV n H v v) : SameV (n + 2) H (.ref a) (.ref b) := by
  refine .inr (.inl ⟨a, b, _, _, rfl, rfl, .inl ⟨ha, hb⟩, by rw [List.length_map, List.length_map, hl], by rw [List.length_map]; exact few, fun i u v eu ev => ?_⟩)
  rw [List.getElem?_map] at eu ev
  cases ep : ps[i]? with
  | none => rw [ep] at eu; cases eu
  | some p =>
    cases eq : qs[i]? with
    | none => rw [eq] at ev; cases ev
    | some q =>
      rw [ep] at eu
      rw [eq] at ev
      cases eu
      cases ev
      have hi : i < qs.length := (List.getElem?_eq_some_iff.mp eq).1
      refine .inr (.inl ⟨p, q, _, _, rfl, rfl, .inr ⟨hp i p ep, hq i q eq⟩, rfl, (ht i hi).1, fun k x y ex ey => ?_⟩)
      rw [ex] at ey
      cases ey
      exact (ht i hi).2 x (List.mem_of_getElem? ex)
theorem KRow.uniq {ks : List KRow} (nd : (ks.map (·.nm)).Nodup) {k k' : KRow} (m : k ∈ ks) (m' : k' ∈ ks) (e : k.nm = k'.nm) : k = k' := by
  induction ks with
  | nil => cases m
  | cons a r ih =>
    have nd' : a.nm ∉ r.map (·.nm) ∧ (r.map (·.nm)).Nodup := List.nodup_cons.mp nd
    rcases List.mem_cons.mp m with rfl | m1
    · rcases List.mem_cons.mp m' with rfl | m2
      · rfl
      · exact absurd (List.mem_map.mpr ⟨k', m2, e.symm⟩) nd'.1
    · rcases List.mem_cons.mp m' with rfl | m2
      · exact absurd (List.mem_map.mpr ⟨k, m1, e⟩) nd'.1
      · exact ih nd'.2 m1 m2
theorem FRow.uniq {ks : List FRow} (nd : (ks.map (·.nm)).Nodup) {k k' : FRow} (m : k ∈ ks) (m' : k' ∈ ks) (e : k.nm = k'.nm) : k = k' := by
  induction ks with
  | nil => cases m
  | cons a r ih =>
    have nd' : a.nm ∉ r.map (·.nm) ∧ (r.map (·.nm)).Nodup := List.nodup_cons.mp nd
    rcases List.mem_cons.mp m with rfl | m1
    · rcases List.mem_cons.mp m' with rfl | m2
      · rfl
      · exact absurd (List.mem_map.mpr ⟨k', m2, e.symm⟩) nd'.1
    · rcases List.mem_cons.mp m' with rfl | m2
      · exact absurd (List.mem_map.mpr ⟨k, m1, e⟩) nd'.1
      · exact ih nd'.2 m1 m2
theorem FdsOf.uniq {ks : List KRow} {fs : List FRow} {us : List URow} {root z : Str} {fds fds' : List Fld} (ok : SchOk ks fs us root) (h : FdsOf ks fs z fds) (h' : FdsOf ks fs z fds') : fds = fds' := by
  rcases h with ⟨k, m, e, rfl⟩ | ⟨n, f, m, e, rfl⟩ | ⟨n1, n2, rfl⟩
  · rcases h' with ⟨k', m', e', rfl⟩ | ⟨n', _⟩ | ⟨n', _⟩
    · rw [KRow.uniq ok.ndk m m' (e.trans e'.symm)]
    · exact absurd (e ▸ List.mem_map.mpr ⟨k, m, rfl⟩) n'
    · exact absurd (e ▸ List.mem_map.mpr ⟨k, m, rfl⟩) n'
  · rcases h' with ⟨k', m', e', rfl⟩ | ⟨_, f', m', e', rfl⟩ | ⟨_, n2', _⟩
    · exact absurd (e' ▸ List.mem_map.mpr ⟨k', m', rfl⟩) n
    · rw [FRow.uniq ok.ndf m m' (e.trans e'.symm)]
    · exact absurd (e ▸ List.mem_map.mpr ⟨f, m, rfl⟩) n2'
  · rcases h' with ⟨k', m', e', rfl⟩ | ⟨_, f', m', e', rfl⟩ | ⟨_, _, rfl⟩
    · exact absurd (e' ▸ List.mem_map.mpr ⟨k', m', rfl⟩) n1
    · exact absurd (e' ▸ List.mem_map.mpr ⟨f', m', rfl⟩) n2
    · rfl
end NW
namespace NW
open PySem PySem.Spec PyProof.Rows L2
open TL (tl)
open StX (pa_star)
abbrev s_law : Stmt := topS 50
abbrev N_law : List Str := ["_law_script", "_law_box_here", "_law_schema_here", "_law_built", "_law_strange_here", "_law_odd", "_law_bases_here", "_law_base", "_law_table_here", "_law_fields", "_law_field", "_law_due", "_law_shape_here", "_law_sure", "_law_refused", "e", "_law_given", "_law_way"]
theorem sc_law : FnScope N_law ["_law_script"] (defScope s_law) := ⟨rfl, rfl, rfl, by decide +kernel, rfl, by decide +kernel, by decide +kernel⟩
theorem passN0 {X : Cx} : Passes (L2N.CX X.prog X.w) X E0 := fun _ _ _ _ _ _ I c => by
  obtain ⟨_, _, _, _, _, _, _, _, _, _, _, _, _, _, _, _, z⟩ := L2N.XE.of_call (W := fun _ _ _ _ => False) I (fun _ _ _ h => h) c
  exact z.elim
theorem one_of {ws : List Str} (h : ws.length = 1) : ∃ z0, ws = [z0] := by
  cases ws with
  | nil => cases h
  | cons z0 r =>
    cases r with
    | nil => exact ⟨z0, rfl⟩
    | cons _ _ => cases h
section
variable {P : Program} {w : World} {K : PySem.W.Frag} {mg : Str → Option Value} {base : Heap}
def spLaw (K : PySem.W.Frag) : Sp := fun vs H Q _ => ∃ (a : Addr) (ns : List Int), vs = [.ref a] ∧ SqL K H a (ns.map V.int) ∧ ns.length ≤ 63 ∧ ∀ H', Q (.bl true) H'
theorem ok_law {f f1 f2 f3 f4 f5 f6 f7 f8 f9 f10 f11 f12 C CN CF : Addr} {fd fd1 fd2 fd3 fd4 fd5 fd6 fd7 fd8 fd9 fd10 fd11 fd12 : FuncData} (D : Df K mg "law" s_law f fd ["_law_script"])
    (D_Lbox : Df K mg "_law_box" s_Lbox f1 fd1 ["_law_script"]) (G_Lbox : FnOk P w K mg base CX0 1 f1 fd1 ["_law_script"] (spLbox K))
    (D_Lschema : Df K mg "_law_schema" s_Lschema f2 fd2 ["_law_box_here", "_law_most", "_law_kinds"]) (G_Lschema : FnOk P w K mg base CX0 4 f2 fd2 ["_law_box_here", "_law_most", "_law_kinds"] spLschema)
    (D_Lmade : Df K mg "_law_made" s_Lmade f3 fd3 ["_law_schema_here"]) (G_Lmade : FnOk P w K mg base CX0 11 f3 fd3 ["_law_schema_here"] (spLmade C))
    (D_Lstrange : Df K mg "_law_strange" s_Lstrange f4 fd4 ["_law_box_here"]) (G_Lstrange : FnOk P w K mg base CX0 2 f4 fd4 ["_law_box_here"] (spLstrange K))
    (D_Lwords : Df K mg "_law_words" s_Lwords f5 fd5 ["_law_box_here", "_law_many"]) (G_Lwords : FnOk P w K mg base CX0 2 f5 fd5 ["_law_box_here", "_law_many"] spLwords)
    (D_Ldraw : Df K mg "_law_draw" s_Ldraw f6 fd6 ["_law_box_here", "_law_many"]) (G_Ldraw : FnOk P w K mg base CX0 1 f6 fd6 ["_law_box_here", "_law_many"] spLdraw)
    (D_Lbases : Df K mg "_law_bases" s_Lbases f7 fd7 ["_law_schema_here"]) (G_Lbases : FnOk P w K mg base CX0 1 f7 fd7 ["_law_schema_here"] spLbases)
    (D_Ltable : Df K mg "_law_table" s_Ltable f8 fd8 ["_law_schema_here", "_law_base"]) (G_Ltable : FnOk P w K mg base CX0 1 f8 fd8 ["_law_schema_here", "_law_base"] spLtable)
    (D_Ltarget : Df K mg "_law_target" s_Ltarget f9 fd9 ["_law_shape_here"]) (G_Ltarget : FnOk P w K mg base CX0 1 f9 fd9 ["_law_shape_here"] spLtarget)
    (D_Lasked : Df K mg "_law_asked" s_Lasked f10 fd10 ["_law_built", "_law_base", "_law_field", "_law_way"]) (G_Lasked : FnOk P w K mg base CX0 7 f10 fd10 ["_law_built", "_law_base", "_law_field", "_law_way"] (spLasked K C))
    (D_Lsame : Df K mg "_law_same" s_Lsame f11 fd11 ["_law_one", "_law_other"]) (G_Lsame : FnOk P w K mg base CX0 7 f11 fd11 ["_law_one", "_law_other"] (spLsame 6)) (G_LsameH : L2H.FnH P w K mg base CX0 3 f11 fd11 ["_law_one", "_law_other"] (spLsame 2))
    (M_fields : Mt K C "fields" "Schema.fields" s_Schema_fields f12 fd12 ["self", "base"]) (G_fields : FnOk P w K mg base (L2N.CX P w) 5 f12 fd12 ["self", "base"] (spFields K C CN))
    (T : Nms mg) (L : ClT K C) (gN : mg "NoBase" = some (.ref CN)) (XN : XfC K CN) (nb : PySem.W.findIn K (.ref CN) "base" = some none) (exm : PySem.W.exmOne K (.ref CN) (.ref CN) = some true) :
    FnOk P w K mg base CX0 12 f fd ["_law_script"] (spLaw K) := by
  refine D.F.ok sc_law (fun vs H Q E h => ?_) (fun cdv A outer s H vs Q E hr h => ?_)
  · obtain ⟨a, ns, rfl, _⟩ := h
    rfl
  · obtain ⟨a, ns, rfl, ha, hn, q⟩ := h
    have hu := hu_of hr
    refine ⟨_, (pss_cons (ps_set (i := 1) sc_law.nd rfl (.inl rfl) (pe_call G_Lbox (hr.mono (by decide)) (by rfl) D_Lbox.g D_Lbox.F.kp D_Lbox.b .nil pass0 (pa_cons (pv 0) pa_nil)))
      (pss_cons (ps_set (i := 2) sc_law.nd rfl (.inl rfl) (pe_call G_Lschema (hr.mono (by decide)) (by rfl) D_Lschema.g D_Lschema.F.kp D_Lschema.b .nil pass0 (pa_cons (pv 1) (pa_cons pe_int (pa_cons pe_int pa_nil)))))
      (pss_cons (ps_set (i := 3) sc_law.nd rfl (.inr rfl) (pe_call G_Lmade (hr.mono (by decide)) (by rfl) D_Lmade.g D_Lmade.F.kp D_Lmade.b .nil pass0 (pa_cons (pv 2) pa_nil)))
      (pss_cons (ps_set (i := 4) sc_law.nd rfl (.inr rfl) (pe_ix ix_list (pe_lst (pa_cons (pe_call G_Lstrange (hr.mono (by decide)) (by rfl) D_Lstrange.g D_Lstrange.F.kp D_Lstrange.b .nil pass0 (pa_cons (pv 1) pa_nil)) (pa_cons (pe_ix ix_list (pe_call G_Lwords (hr.mono (by decide)) (by rfl) D_Lwords.g D_Lwords.F.kp D_Lwords.b .nil pass0 (pa_cons (pv 1) (pa_cons pe_int pa_nil))) pe_int (fun _ _ => rfl)) pa_nil))) (pe_call G_Ldraw (hr.mono (by decide)) (by rfl) D_Ldraw.g D_Ldraw.F.kp D_Ldraw.b .nil pass0 (pa_cons (pv 1) (pa_cons pe_int pa_nil))) (fun _ _ => rfl)))
      (pss_cons (ps_set (i := 5) sc_law.nd rfl (.inr rfl) (pe_ix ix_list (pe_lst (pa_cons (pe_call G_Lstrange (hr.mono (by decide)) (by rfl) D_Lstrange.g D_Lstrange.F.kp D_Lstrange.b .nil pass0 (pa_cons (pv 1) pa_nil)) (pa_cons (pe_ix ix_list (pe_call G_Lwords (hr.mono (by decide)) (by rfl) D_Lwords.g D_Lwords.F.kp D_Lwords.b .nil pass0 (pa_cons (pv 1) (pa_cons pe_int pa_nil))) pe_int (fun _ _ => rfl)) pa_nil))) (pe_call G_Ldraw (hr.mono (by decide)) (by rfl) D_Ldraw.g D_Ldraw.F.kp D_Ldraw.b .nil pass0 (pa_cons (pv 1) (pa_cons pe_int pa_nil))) (fun _ _ => rfl)))
      (pss_cons (ps_set (i := 6) sc_law.nd rfl (.inl rfl) (pe_op op_cat (pe_call G_Lbases (hr.mono (by decide)) (by rfl) D_Lbases.g D_Lbases.F.kp D_Lbases.b .nil pass0 (pa_cons (pv 2) pa_nil)) (pe_lst (pa_cons pe_str (pa_cons pe_str pa_nil)))))
      (pss_cons (ps_for PassesOwn.never rfl (pi_list (pv 6)) (pg_name (i := 7) sc_law.nd rfl (.inr rfl))
       (pss_cons (ps_set (i := 8) sc_law.nd rfl (.inl rfl) (pe_call G_Ltable (hr.mono (by decide)) (by rfl) D_Ltable.g D_Ltable.F.kp D_Ltable.b .nil pass0 (pa_cons (pv 2) (pa_cons (pv 7) pa_nil))))
        (pss_cons (ps_set (i := 9) sc_law.nd rfl (.inl rfl) (pe_meth (pv 3) L.cl M_fields.m G_fields (hr.mono (by decide)) M_fields.b .nil passN0 (pa_cons (pv 7) pa_nil)))
        (pss_cons (ps_if (pt_not (pt_val (pe_call G_Lsame (hr.mono (by decide)) (by rfl) D_Lsame.g D_Lsame.F.kp D_Lsame.b .nil pass0 (pa_cons (pv 9) (pa_cons (pe_callB (call_sortedD rfl) (by rfl) T.n_sorted (by decide +kernel) (pa_cons (pv 8) pa_nil)) pa_nil)))))
         (pss_one (ps_ret pe_bl))
         pss_nil)
        (pss_cons (ps_expr (pe_bm PySem.F.plainAttrs_list PySem.F.slot_list_append PySem.F.type_list_append mt_append (pv 9) (pa_cons pe_str pa_nil)))
        (pss_cons (ps_if (pt_not (pt_val (pe_call G_Lsame (hr.mono (by decide)) (by rfl) D_Lsame.g D_Lsame.F.kp D_Lsame.b .nil pass0 (pa_cons (pe_meth (pv 3) L.cl M_fields.m G_fields (hr.mono (by decide)) M_fields.b .nil passN0 (pa_cons (pv 7) pa_nil)) (pa_cons (pe_callB (call_sortedD rfl) (by rfl) T.n_sorted (by decide +kernel) (pa_cons (pv 8) pa_nil)) pa_nil)))))
         (pss_one (ps_ret pe_bl))
         pss_nil)
        (pss_one (ps_for PassesOwn.never rfl (pi_list (pe_op op_cat (pe_callB (call_sortedD rfl) (by rfl) T.n_sorted (by decide +kernel) (pa_cons (pv 8) pa_nil)) (pe_lst (pa_cons (pv 5) pa_nil)))) (pg_name (i := 10) sc_law.nd rfl (.inr rfl))
         (pss_cons (ps_set (i := 11) sc_law.nd rfl (.inl rfl) (pe_op op_rep (pe_lst (pa_cons (pe_tup (pa_cons pe_str (pa_cons (pv 7) (pa_cons (pv 10) pa_nil)))) pa_nil)) pe_int))
          (pss_cons (ps_if (PW.pt (pw_and (pt_val (pe_callB call_isi (by rfl) T.n_isinstance (by decide +kernel) (pa_cons (pv 10) (pa_cons (pe_bltn (v := .ty "str") (by rfl) T.n_str (by decide +kernel) rfl) pa_nil)))) (pw_and1 (pt_cmp (pc_din hu (pv 10) (pv 8)) rfl))))
           (pss_cons (ps_set (i := 12) sc_law.nd rfl (.inl rfl) (pe_dget hu (pv 8) (pv 10) (fun _ _ => rfl)))
            (pss_cons (ps_set (i := 13) sc_law.nd rfl (.inl rfl) (pe_and (pe_not (pe_callB call_isi (by rfl) T.n_isinstance (by decide +kernel) (pa_cons (pv 12) (pa_cons (pe_bltn (v := .ty "str") (by rfl) T.n_str (by decide +kernel) rfl) pa_nil)))) (pe_one (pe_cmpR op_eq (pe_ix ix_tup (pv 12) pe_int (fun _ _ => rfl)) pe_str (nomark _)))))
            (pss_one (ps_set (i := 11) sc_law.nd rfl (.inl rfl) (pe_lst (pa_cons (pe_tup (pa_cons pe_str (pa_cons (pv 12) pa_nil))) (pa_cons (pe_tup (pa_cons pe_str (pa_cons (pe_call G_Ltarget (hr.mono (by decide)) (by rfl) D_Ltarget.g D_Ltarget.F.kp D_Ltarget.b .nil pass0 (pa_cons (pv 12) pa_nil)) pa_nil))) (pa_cons (pe_tup (pa_cons pe_str (pa_cons (pv 13) pa_nil))) pa_nil))))))))
           pss_nil)
          (pss_one (ps_if (pt_not (pt_val (pe_call G_Lsame (hr.mono (by decide)) (by rfl) D_Lsame.g D_Lsame.F.kp D_Lsame.b .nil pass0 (pa_cons (pe_lc (own := [("_law_way", 17)]) (g := (gName 17)) (tt := tYes) rfl sc_law.nd (pi_range1 (by rfl) T.n_range (pa_cons pe_int pa_nil)) (blkOk_by (own := [("_law_way", 17)]) (N := N_law) (sc := defScope s_law) (by decide +kernel)) (fun _ _ _ _ _ => (pg_name (i := 17) sc_law.nd rfl (.inl rfl))) (fun _ _ _ _ _ => pts_nil) (fun _ _ _ _ _ => (pe_call G_Lasked (hr.mono (by decide)) (by rfl) D_Lasked.g D_Lasked.F.kp D_Lasked.b .nil pass0 (pa_cons (pv 3) (pa_cons (pv 7) (pa_cons (pv 10) (pa_cons (pv 17) pa_nil))))))) (pa_cons (pv 11) pa_nil)))))
           (pss_one (ps_ret pe_bl))
           pss_nil))))))))))))
      (pss_cons (ps_if (PW.pt (pw_and (pt_val (pe_callB call_isi (by rfl) T.n_isinstance (by decide +kernel) (pa_cons (pv 4) (pa_cons (pe_bltn (v := .ty "str") (by rfl) T.n_str (by decide +kernel) rfl) pa_nil)))) (pw_and1 (pt_cmpR op_in_seq (pv 4) (pv 6) (by rfl)))))
       (pss_one (ps_ret pe_bl))
       pss_nil)
      (pss_cons (ps_set (i := 14) sc_law.nd rfl (.inl rfl) pe_bl)
      (pss_cons (L2N.ps_try_as (i := 15) rfl rfl sc_law.nd rfl rfl ⟨rfl, by decide, .inl gN⟩ takesA
        (fun W pn xe tk _ => (pss_one (ps_expr (pe_methX (pv 3) L.cl M_fields.m G_fields (hr.mono (by decide)) M_fields.b (fun σ => L2N.passAt tk σ) (pa_cons (pv 4) pa_nil)))))
        (fun a oe cls d pn hz hf => (pss_one (ps_set (i := 14) sc_law.nd rfl (.inl rfl) (L2H.pe_callH (E := fun _ => E0) G_LsameH (L2H.roomH_mark (hr.mono (by decide)) _) ⟨(a, oe), ⟨rfl, hf.elim fun vs hd => ⟨vs, hd, hz.2.2 vs hd⟩⟩, List.mem_cons_self⟩ (by rfl) D_Lsame.g D_Lsame.F.kp D_Lsame.b (fun _ _ _ _ _ _ _ z => z.elim) (pa_cons (pe_xf XN nb hz.zc hf (pv 15)) (pa_cons (pv 4) pa_nil)))))))
      (pss_cons (ps_setLc (i := 16) (own := [("_law_way", 17)]) (g := (gName 17)) (tt := tYes) rfl sc_law.nd rfl rfl (sw_true rfl rfl rfl (by decide +kernel)) (pi_range1 (by rfl) T.n_range (pa_cons pe_int pa_nil)) (blkOk_by (own := [("_law_way", 17)]) (N := N_law) (sc := defScope s_law) (by decide +kernel)) (fun _ _ _ _ _ => (pg_name (i := 17) sc_law.nd rfl (.inl rfl))) (fun _ _ _ _ _ => pts_nil) (fun _ _ _ _ _ => (pe_call G_Lasked (hr.mono (by decide)) (by rfl) D_Lasked.g D_Lasked.F.kp D_Lasked.b .nil pass0 (pa_cons (pv 3) (pa_cons (pv 4) (pa_cons (pv 5) (pa_cons (pv 17) pa_nil)))))))
      (pss_one (ps_ret (pe_and (pv 14) (pe_one (pe_call G_Lsame (hr.mono (by decide)) (by rfl) D_Lsame.g D_Lsame.F.kp D_Lsame.b .nil pass0 (pa_cons (pv 16) (pa_cons (pe_op op_rep (pe_lst (pa_cons (pe_tup (pa_cons pe_str (pa_cons (pv 4) pa_nil))) pa_nil)) pe_int) pa_nil)))))))))))))))))), ?_⟩
    have hS : ∀ n : Nat, n ≤ 1000 → n ≤ sizeLine := fun n h => Nat.le_trans h (by decide)
    refine ⟨.ref a, rfl, a, ns, rfl, ha, hn, fun H1 b r s1 nb_ nr B1 => ?_⟩
    refine ⟨.ref b, rfl, b, r, 4, 6, rfl, B1, by decide, by decide, by decide, fun q0 kt ft ut ks fs us root H2 hq S ok g2 B2 => ?_⟩
    have k1 := ok.k1
    have f1' := ok.f1
    have u1 := ok.u1
    refine ⟨.ref q0, rfl, q0, kt, ft, ut, ks, fs, us, root, rfl, ⟨hq, S, ok⟩, fun x H3 Bt s3 nx => ?_⟩
    have B3 : Box H3 b r := B2.gr (Same.gr s3) (by
      obtain ⟨xs, e⟩ := B2.lst
      rw [e]
      exact s3 _ _ e)
    have ST3 : SchT H3 q0 kt ft ut ks fs us root := ⟨s3 _ _ hq, S.same s3, ok⟩
    refine ⟨.ref b, rfl, b, r, rfl, B3, fun v H4 ov g4 B4 => ?_⟩
    refine ⟨.ref b, rfl, b, r, 1, rfl, B4, by decide, fun ws pw H5 hwl hwn hwd g5 B5 npw epw => ?_⟩
    obtain ⟨z0, rfl⟩ : ∃ z0, ws = [z0] := one_of hwl
    refine ⟨pw, _, 0, _, rfl, rfl, SqL.of epw, atI_nat (j := 0) rfl, hS 2 (by decide), fun p6 n6 => ?_⟩
    have B6 := B5.new (o := .lst [v, .str z0]) n6
    have n6b := B5.neb n6
    refine ⟨.ref b, rfl, b, r, 2, rfl, B6, by decide, by decide, fun d H7 d0 d1 g7 B7 => ?_⟩
    obtain ⟨d, rfl⟩ := Int.eq_ofNat_of_zero_le d0
    have g37 : Gr b H3 H7 := g4.trans (g5.trans ((Gr.new n6).trans g7))
    obtain ⟨sv, hsv, od⟩ : ∃ sv, ([v, .str z0] : List V)[d]? = some sv ∧ Odd K b H7 sv := by
      have hd : d < 2 := by omega
      match d, hd with
      | 0, _ => exact ⟨v, rfl, ov.gr (g5.trans ((Gr.new n6).trans g7))⟩
      | 1, _ => exact ⟨.str z0, rfl, .str⟩
    refine ⟨p6, _, d, sv, rfl, rfl, SqL.of (g7 _ _ n6b upd_same), atI_nat hsv, ?_⟩
    refine ⟨.ref b, rfl, b, r, rfl, B7, fun vq H4q ovq g4q B4q => ?_⟩
    refine ⟨.ref b, rfl, b, r, 1, rfl, B4q, by decide, fun wsq pwq H5q hwlq hwnq hwdq g5q B5q npwq epwq => ?_⟩
    obtain ⟨z0q, rfl⟩ : ∃ z0, wsq = [z0] := one_of hwlq
    refine ⟨pwq, _, 0, _, rfl, rfl, SqL.of epwq, atI_nat (j := 0) rfl, hS 2 (by decide), fun p6q n6q => ?_⟩
    have B6q := B5q.new (o := .lst [vq, .str z0q]) n6q
    have n6bq := B5q.neb n6q
    refine ⟨.ref b, rfl, b, r, 2, rfl, B6q, by decide, by decide, fun dq H11 d0q d1q g7q B11 => ?_⟩
    obtain ⟨dq, rfl⟩ := Int.eq_ofNat_of_zero_le d0q
    have g37q : Gr b H7 H11 := g4q.trans (g5q.trans ((Gr.new n6q).trans g7q))
    obtain ⟨ov, hsvq, oo⟩ : ∃ sv, ([vq, .str z0q] : List V)[dq]? = some sv ∧ Odd K b H11 sv := by
      have hd : dq < 2 := by omega
      match dq, hd with
      | 0, _ => exact ⟨vq, rfl, ovq.gr (g5q.trans ((Gr.new n6q).trans g7q))⟩
      | 1, _ => exact ⟨.str z0q, rfl, .str⟩
    refine ⟨p6q, _, dq, ov, rfl, rfl, SqL.of (g7q _ _ n6bq upd_same), atI_nat hsvq, ?_⟩
    have gAll : Gr b H3 H11 := g37.trans g37q
    have nxb : x ≠ b := B2.neb nx
    have hOb : Oth H3 b := by
      obtain ⟨xs, e⟩ := B3.lst
      exact .lst e
    have Bt7 := Bt.gr hOb gAll nxb
    have ST7 : SchT H11 q0 kt ft ut ks fs us root := ⟨gAll _ _ (hOb.net ST3.1) ST3.1, ST3.2.1.gr hOb gAll, ok⟩
    have od11 : Odd K b H11 sv := od.gr g37q
    refine ⟨.ref q0, rfl, q0, kt, ft, ut, ks, fs, us, root, rfl, ST7, fun l p8 H8 pl s8 n8 e8 => ⟨hS 2 (by decide), fun p9 n9 => ?_⟩⟩
    have hll : l.length ≤ 12 := by
      rw [pl.length_eq, List.length_append, List.length_append, List.length_map, List.length_map, List.length_map]
      omega
    refine ⟨p8, p9, _, _, rfl, rfl, by rw [upd_ne (ne_of_none e8 n9)]; exact e8, upd_same, ?_, fun p10 n10 => ?_⟩
    · rw [List.length_map]
      exact hS _ (by show l.length + 2 ≤ 1000; omega)
    have eLB : l.map V.str ++ [V.str "number", V.str "text"] = (l ++ [("number" : Str), ("text" : Str)]).map V.str := by rw [List.map_append]; rfl
    rw [eLB]
    have hLBp : (l ++ [("number" : Str), ("text" : Str)]).Perm (bsOf ks fs us) := by
      refine (List.perm_append_comm (l₁ := l)).trans (List.Perm.append_left _ ?_)
      rw [List.append_assoc] at pl
      exact pl
    generalize l ++ [("number" : Str), ("text" : Str)] = LB at hLBp
    have hLBm : ∀ z, z ∈ LB ↔ z ∈ bsOf ks fs us := fun z => hLBp.mem_iff
    have s9 : Same H11 (upd (upd H8 p9 (.lst [.str "number", .str "text"])) p10 (.lst (LB.map V.str))) := (s8.trans (same_new n9)).trans (same_new n10)
    generalize hH9 : upd (upd H8 p9 (.lst [.str "number", .str "text"])) p10 (.lst (LB.map V.str)) = H9 at s9
    have e10 : H9 p10 = some (.lst (LB.map V.str)) := by rw [← hH9]; exact upd_same
    have Bt9 := Bt7.same s9
    have ST9 : SchT H9 q0 kt ft ut ks fs us root := ⟨s9 _ _ ST7.1, ST7.2.1.same s9, ok⟩
    have od9 : ∀ H', Same H9 H' → Odd K b H' sv := fun H' s => od11.gr (Same.gr (s9.trans s))
    have oo9 : ∀ H', Same H9 H' → Odd K b H' ov := fun H' s => oo.gr (Same.gr (s9.trans s))
    have BtA : ∀ {H2 : Hp}, Same H9 H2 → BuiltAt C H2 x ks fs us root := fun s => Bt9.same s
    have STA : ∀ {H2 : Hp}, Same H9 H2 → SchT H2 q0 kt ft ut ks fs us root := fun s => ⟨s _ _ ST9.1, ST9.2.1.same s, ok⟩
    have insx : ∀ H', Same H9 H' → ∃ dx kt' ft' ut', H' x = some (.ins C dx (pfs kt' ft' ut' root)) := fun H' s => by
      obtain ⟨dx, kt', ft', ut', _, _, _, hx, _⟩ := Bt9
      exact ⟨dx, kt', ft', ut', s _ _ hx⟩
    clear hH9 od od11 oo
    -- the bases
    refine ⟨.ref p10, rfl, p10, rfl, ⟨_, SqL.of e10⟩, for_list (xs := LB.map V.str) (fun j σ H4 => ∃ y7 y8 y9 y10 y11 y12 y13 : Option V, σ = [some (.ref a), some (.ref b), some (.ref q0), some (.ref x), some sv, some ov, some (.ref p10), y7, y8, y9, y10, y11, y12, y13, none, none, none, none] ∧ Same H9 H4) ?_ ?_ ?_ ?_⟩
    · exact ⟨_, _, _, _, _, _, _, rfl, fun _ _ e => e⟩
    · rintro j σ H4 _ ⟨_, _, _, _, _, _, _, _, s4⟩
      exact SqL.of (s4 _ _ e10)
    · rintro j y σ H4 ey ⟨y7, y8, y9, y10, y11, y12, y13, rfl, s4⟩
      obtain ⟨z, hz, rfl⟩ := List.mem_map.mp (List.mem_of_getElem? ey)
      have hzb := (hLBm z).mp hz
      refine ⟨.ref q0, rfl, .str z, rfl, q0, kt, ft, ut, ks, fs, us, root, z, rfl, STA s4, fun fds d H5 hf sh5 s5 e5 => ?_⟩
      have s45 := s4.trans s5
      have few := hf.few ok
      have fnd := hf.nd ok
      have hsz : (fds.map (·.1)).length < 64 := by
        rw [List.length_map]
        omega
      obtain ⟨dx, kt', ft', ut', hx⟩ := insx H5 s45
      refine ⟨.ref x, rfl, x, dx, _, rfl, hx, lkn _ _ _ _ (by decide +kernel) (by decide +kernel) (by decide +kernel) (by decide +kernel), .str z, rfl, x, .str z, ks, fs, us, root, rfl, BtA s45, ok, .inl ⟨z, rfl, hzb, fun fds1 l1 q1 H6 hf1 pm1 so1 s6 n1 e1 => ?_⟩⟩
      cases hf.uniq ok hf1
      have s46 := s45.trans s6
      refine ⟨.ref q1, rfl, .ref d, rfl, d, fkv fds, _, rfl, .inl (s6 _ _ e5), fkv_keys fds, hsz, fun ys1 r1 pys1 sys1 nr1 => ?_⟩
      cases sorted_one so1 sys1 (pm1.trans pys1.symm)
      have t6 := same_new (o := .lst (l1.map V.str)) nr1
      have hl1 : l1.length ≤ 5 := by rw [pm1.length_eq, List.length_map]; exact few
      refine ⟨_, _, rfl, ((SameV.strs (t6 _ _ e1) upd_same (by omega)).le (by decide)), fun H7 s7 => ⟨true, rfl, iteF ?_⟩⟩
      have s47 := (s46.trans t6).trans s7
      have e17 := s7 _ _ (t6 _ _ e1)
      refine ⟨.ref q1, rfl, .inl ⟨rfl, _, SqL.of e17⟩, q1, _, _, rfl, rfl, e17, ?_, ?_⟩
      · rw [List.length_map]
        exact Nat.lt_of_le_of_lt (show l1.length ≤ 1000 by omega) (by decide)
      have nq1 : H9 q1 = none := s45.free n1
      have nq5 : H5 q1 = none := n1
      have s57 : Same H5 H7 := (s6.trans t6).trans s7
      have s48 := same_upd (o := .lst (l1.map V.str ++ [.str "other"])) s47 nq1
      have s58 := same_upd (o := .lst (l1.map V.str ++ [.str "other"])) s57 nq5
      generalize upd H7 q1 (.lst (l1.map V.str ++ [.str "other"])) = H8 at s48 s58
      -- once more
      obtain ⟨dx, kt', ft', ut', hx⟩ := insx H8 s48
      refine ⟨.ref x, rfl, x, dx, _, rfl, hx, lkn _ _ _ _ (by decide +kernel) (by decide +kernel) (by decide +kernel) (by decide +kernel), .str z, rfl, x, .str z, ks, fs, us, root, rfl, BtA s48, ok, .inl ⟨z, rfl, hzb, fun fds2 l2 q2 H10 hf2 pm2 so2 s10 n2 e2 => ?_⟩⟩
      cases hf.uniq ok hf2
      refine ⟨.ref d, rfl, d, fkv fds, _, rfl, .inl (s10 _ _ (s58 _ _ e5)), fkv_keys fds, hsz, fun ys2 r2 pys2 sys2 nr2 => ?_⟩
      cases sorted_one so2 sys2 (pm2.trans pys2.symm)
      have t10 := same_new (o := .lst (l2.map V.str)) nr2
      have hl2 : l2.length ≤ 5 := by rw [pm2.length_eq, List.length_map]; exact few
      refine ⟨_, _, rfl, ((SameV.strs (t10 _ _ e2) upd_same (by omega)).le (by decide)), fun H12 s12 => ⟨true, rfl, iteF ?_⟩⟩
      have s412 := ((s48.trans s10).trans t10).trans s12
      have s512 := ((s58.trans s10).trans t10).trans s12
      have e512 := s512 _ _ e5
      -- sorted(table) + [odd]
      refine ⟨.ref d, rfl, d, fkv fds, _, rfl, .inl e512, fkv_keys fds, hsz, fun ys3 r3 pys3 sys3 nr3 => ⟨ov, rfl, hS 1 (by decide), fun p13 n13 => ?_⟩⟩
      have t13 := same_new (o := .lst (ys3.map V.str)) nr3
      have t14 := same_new (o := .lst [ov]) n13
      have hl3 : ys3.length ≤ 5 := by rw [pys3.length_eq, List.length_map]; exact few
      refine ⟨r3, p13, _, _, rfl, rfl, t14 _ _ upd_same, upd_same, ?_, fun pc nc => ?_⟩
      · rw [List.length_map]
        exact hS _ (by show ys3.length + 1 ≤ 1000; omega)
      have t15 := same_new (o := .lst (ys3.map V.str ++ [ov])) nc
      have sC := ((s412.trans t13).trans t14).trans t15
      have sC5 := ((s512.trans t13).trans t14).trans t15
      have eC : (upd (upd (upd H12 r3 (.lst (ys3.map V.str))) p13 (.lst [ov])) pc (.lst (ys3.map V.str ++ [ov]))) pc = some (.lst (ys3.map V.str ++ [ov])) := upd_same
      generalize upd (upd (upd H12 r3 (.lst (ys3.map V.str))) p13 (.lst [ov])) pc (.lst (ys3.map V.str ++ [ov])) = HC at sC sC5 eC
      refine ⟨pc, rfl, ⟨_, SqL.of eC⟩, for_list (xs := ys3.map V.str ++ [ov]) (fun j σ H4 => ∃ y10 y11 y12 y13 : Option V, σ = [some (.ref a), some (.ref b), some (.ref q0), some (.ref x), some sv, some ov, some (.ref p10), some (.str z), some (.ref d), some (.ref q1), y10, y11, y12, y13, none, none, none, none] ∧ Same HC H4) ?_ ?_ ?_ ?_⟩
      · exact ⟨_, _, _, _, rfl, fun _ _ e => e⟩
      · rintro j σ H4 _ ⟨_, _, _, _, _, s⟩
        exact SqL.of (s _ _ eC)
      · rintro j y σ H4 ey ⟨y10, y11, y12, y13, rfl, sH⟩
        have sHH := sC.trans sH
        have eD := sH _ _ (sC5 _ _ e5)
        have selfY : ∀ H', Same H9 H' → SameV 4 H' y y := by
          intro H' s
          rcases List.mem_append.mp (List.mem_of_getElem? ey) with m | m
          · obtain ⟨g, _, rfl⟩ := List.mem_map.mp m
            exact SameV.strV
          · obtain rfl : y = ov := List.mem_singleton.mp m
            exact SameV.le (by decide) ((oo9 H' s).same H' Gr.refl)
        have hy : (∃ fl ∈ fds, y = .str fl.1) ∨ (∃ g, y = .str g ∧ g ∉ fds.map (·.1)) ∨ (∃ t, (∀ H', Same H9 H' → TyX K H' y t) ∧ PySem.W.kitOne K t (.type "str") = some false) := by
          have byStr : ∀ g : Str, y = .str g → (∃ fl ∈ fds, y = .str fl.1) ∨ (∃ g, y = .str g ∧ g ∉ fds.map (·.1)) := by
            intro g e
            by_cases hg : g ∈ fds.map (·.1)
            · obtain ⟨fl, fm, rfl⟩ := List.mem_map.mp hg
              exact .inl ⟨fl, fm, e⟩
            · exact .inr ⟨g, e, hg⟩
          rcases List.mem_append.mp (List.mem_of_getElem? ey) with m | m
          · obtain ⟨g, _, e⟩ := List.mem_map.mp m
            rcases byStr g e.symm with h | h
            · exact .inl h
            · exact .inr (.inl h)
          · obtain rfl : y = ov := List.mem_singleton.mp m
            rcases (oo9 H9 (fun _ _ e => e)).kind with ⟨g, e⟩ | ⟨t, ht, hk⟩
            · rcases byStr g e with h | h
              · exact .inl h
              · exact .inr (.inl h)
            · exact .inr (.inr ⟨t, fun H' s => ht H' (Same.gr s), hk⟩)
        -- due
        refine ⟨.str z, rfl, y, rfl, hS 3 (by decide), fun pt nt => ⟨hS 1 (by decide), fun pl nl => ⟨pl, 3, _, rfl, rfl, upd_same, by decide, by decide, hS 3 (by decide), fun pd npd => ?_⟩⟩⟩
        have u1 := same_new (o := .tup [.str "field", .str z, y]) nt
        have u2 := same_new (o := .lst [.ref pt]) nl
        have u3 := same_new (o := .lst (List.replicate (3 : Int).toNat [V.ref pt]).flatten) npd
        have sD := (sHH.trans u1).trans (u2.trans u3)
        have sDC := (sH.trans u1).trans (u2.trans u3)
        have sD4 := u1.trans (u2.trans u3)
        have et := u3 _ _ (u2 _ _ (upd_same (H := H4) (a := pt) (o := .tup [.str "field", .str z, y])))
        have ed : (upd (upd (upd H4 pt (.tup [.str "field", .str z, y])) pl (.lst [.ref pt])) pd (.lst (List.replicate (3 : Int).toNat [V.ref pt]).flatten)) pd = some (.lst ([pt, pt, pt].map V.ref)) := upd_same
        generalize upd (upd (upd H4 pt (.tup [.str "field", .str z, y])) pl (.lst [.ref pt])) pd (.lst (List.replicate (3 : Int).toNat [V.ref pt]).flatten) = HD at sD sDC sD4 et ed
        have eD2 := sD4 _ _ eD
        dsimp only
        refine cut1 (fun σ' H' => ∃ (pd' : Addr) (qs : List Addr) (TT : Nat → List V) (y12 y13 : Option V), σ' = [some (.ref a), some (.ref b), some (.ref q0), some (.ref x), some sv, some ov, some (.ref p10), some (.str z), some (.ref d), some (.ref q1), some y, some (.ref pd'), y12, y13, none, none, none, none] ∧ Same HC H' ∧
          H' pd' = some (.lst (qs.map V.ref)) ∧ qs.length = 3 ∧ (∀ (i : Nat) p, qs[i]? = some p → H' p = some (.tup (TT i))) ∧ (∀ i, i < 3 → (TT i).length ≤ 1000 ∧ ∀ v ∈ TT i, ∀ H'', Same H' H'' → SameV 4 H'' v v) ∧
          (∀ (i : Nat) (Q1 : VK) H'', i < 3 → Same H' H'' → NewT H'' (TT i) Q1 → AskedAt K ks fs us H'' (.str z) y i Q1)) ?_ (fun rest => ?_)
        · rintro σ' H' ⟨pd', qs, TT, y12, y13, rfl, sG, eG, hql, hqt, hts, hask⟩
          refine ⟨3, rfl, by decide, by decide, fun Da nD => lc_tups (walk_range (lo := 0) (n := 3)) (fun i x => x = .int (0 + (i : Int))) TT (fun i H x H' hi y => y) (fun _ _ => trivial) nD (by decide) (fun _ => rfl) ?_ ?_⟩
          · rintro i v H5 Q5 hi rfl s5' hk
            exact ⟨.ref x, rfl, .str z, rfl, y, rfl, _, rfl, x, .str z, y, _, i, ks, fs, us, root, rfl, by omega, hi, BtA ((sC.trans sG).trans s5'), ok, hask i Q5 H5 hi s5' hk⟩
          · intro H5 ps s5' e5' hl al
            refine ⟨.ref pd', rfl, _, _, rfl, SameV.tups (n := 4) (T := TT) e5' (s5' _ _ eG) (hl.trans hql.symm) (by omega) al (fun i p e => s5' _ _ (hqt i p e)) (fun i hi => ⟨(hts i (by omega)).1, fun v m => (hts i (by omega)).2 v m H5 s5'⟩), fun H6 s6' => ⟨true, rfl, iteF ?_⟩⟩
            exact ⟨_, _, _, _, rfl, (sG.trans s5').trans s6'⟩
        · have bad : (∃ g, y = .str g ∧ g ∉ fds.map (·.1)) ∨ (∃ t, (∀ H', Same H9 H' → TyX K H' y t) ∧ PySem.W.kitOne K t (.type "str") = some false) → ∃ (pd' : Addr) (qs : List Addr) (TT : Nat → List V) (y12' y13' : Option V), (([some (.ref a), some (.ref b), some (.ref q0), some (.ref x), some sv, some ov, some (.ref p10), some (.str z), some (.ref d), some (.ref q1), some y, some (.ref pd), y12, y13, none, none, none, none] : L2.St) = [some (.ref a), some (.ref b), some (.ref q0), some (.ref x), some sv, some ov, some (.ref p10), some (.str z), some (.ref d), some (.ref q1), some y, some (.ref pd'), y12', y13', none, none, none, none]) ∧ Same HC HD ∧
              HD pd' = some (.lst (qs.map V.ref)) ∧ qs.length = 3 ∧ (∀ (i : Nat) p, qs[i]? = some p → HD p = some (.tup (TT i))) ∧ (∀ i, i < 3 → (TT i).length ≤ 1000 ∧ ∀ v ∈ TT i, ∀ H'', Same HD H'' → SameV 4 H'' v v) ∧
              (∀ (i : Nat) (Q1 : VK) H'', i < 3 → Same HD H'' → NewT H'' (TT i) Q1 → AskedAt K ks fs us H'' (.str z) y i Q1) := by
            intro hb
            refine ⟨pd, [pt, pt, pt], fun _ => [.str "field", .str z, y], y12, y13, rfl, sDC, ed, rfl, ?_, ?_, ?_⟩
            · intro i p e
              match i, e with
              | 0, e => cases e; exact et
              | 1, e => cases e; exact et
              | 2, e => cases e; exact et
              | i + 3, e => cases e
            · intro i _
              refine ⟨by show 3 ≤ 1000; decide, fun v m H'' s'' => ?_⟩
              simp only [List.mem_cons, List.not_mem_nil, or_false] at m
              rcases m with rfl | rfl | rfl
              · exact SameV.strV
              · exact SameV.strV
              · exact selfY H'' (sD.trans s'')
            · intro i Q1 H'' _ s'' k
              refine .inl ⟨z, rfl, hzb, fun fds' hf' => ?_⟩
              cases hf.uniq ok hf'
              rcases hb with ⟨g, e, hg⟩ | ⟨t, ht, hk⟩
              · exact .inl ⟨g, e, .inr ⟨hg, k⟩⟩
              · exact .inr ⟨⟨t, fun H' s => ht H' ((sD.trans s'').trans s), hk⟩, k⟩
          rcases hy with ⟨fl, fm, rfl⟩ | hb
          · have hv : valV (fkv fds) (Sum.inr fl.1) = some fl.2.1 := valV_map (f := fun f : Fld => f.1) (g := fun f => f.2.1) fnd fm
            have shD : ShAt HD fl.2.1 fl.2.2 := (sh5 fl fm).same (sC5.trans (sH.trans sD4))
            have hdep : fl.2.2.dep ≤ 4 := okS_dep (hf.ok ok fm)
            refine ⟨.str fl.1, rfl, _, _, _, _, true, rfl, .ty "str", .base (.str fl.1), kit_ty (by decide +kernel), true, rfl, iteT ⟨.str fl.1, rfl, .ref d, rfl, d, _, rfl, .inl ⟨fkv fds, .inr fl.1, .inl eD2, rfl, rfl⟩, _, rfl, ?_⟩⟩
            rw [hv]
            refine iteT ⟨.ref d, rfl, .str fl.1, rfl, d, fl.2.1, rfl, .inl ⟨fkv fds, .inr fl.1, .inl eD2, rfl, hv.symm⟩, ?_⟩
            dsimp only
            refine cut1 (t1 := tAsg (tAndV _ _) (gName 13)) (fun σ' H2 => σ' = [some (.ref a), some (.ref b), some (.ref q0), some (.ref x), some sv, some ov, some (.ref p10), some (.str z), some (.ref d), some (.ref q1), some (.str fl.1), some (.ref pd), some fl.2.1, some (.bl fl.2.2.isSure), none, none, none, none] ∧ H2 = HD) ?_ (fun rest2 => ?_)
            · rintro σ' H2 ⟨rfl, rfl⟩
              refine ⟨fl.2.1, rfl, hS 2 (by decide), fun t0 nt0 => ⟨fl.2.1, rfl, fl.2.1, fl.2.2, rfl, shD.same (same_new nt0), hdep, hS 2 (by decide), fun t1 nt1 => ⟨.bl fl.2.2.isSure, rfl, hS 2 (by decide), fun t2 nt2 => ⟨hS 3 (by decide), fun pe npe => ?_⟩⟩⟩⟩
              have u0 := same_new (o := .tup [.str "given", fl.2.1]) nt0
              have u1 := same_new (o := .tup [.str "given", .str fl.2.2.tgt]) nt1
              have u2 := same_new (o := .tup [.str "given", .bl fl.2.2.isSure]) nt2
              have u3 := same_new (o := .lst [.ref t0, .ref t1, .ref t2]) npe
              have e0 := (u1.trans (u2.trans u3)) _ _ (upd_same (H := H2) (a := t0) (o := .tup [.str "given", fl.2.1]))
              have uu := u0.trans (u1.trans (u2.trans u3))
              refine rest _ _ ⟨pe, [t0, t1, t2], fun i => [.str "given", toldV i fl], _, _, rfl, sDC.trans uu, upd_same, rfl, ?_, ?_, ?_⟩
              · intro i p e
                match i, e with
                | 0, e => cases e; exact e0
                | 1, e => cases e; exact (u2.trans u3) _ _ upd_same
                | 2, e => cases e; exact u3 _ _ upd_same
                | i + 3, e => cases e
              · intro i hi
                refine ⟨by show 2 ≤ 1000; decide, fun v m H'' s'' => ?_⟩
                simp only [List.mem_cons, List.not_mem_nil, or_false] at m
                rcases m with rfl | rfl
                · exact SameV.strV
                · match i, hi with
                  | 0, _ => exact SameV.le hdep (shD.same (uu.trans s'')).self
                  | 1, _ => exact SameV.strV
                  | 2, _ => exact SameV.blV
              · intro i Q1 H'' hi s'' k
                refine .inl ⟨z, rfl, hzb, fun fds' hf' => ?_⟩
                cases hf.uniq ok hf'
                exact .inl ⟨fl.1, rfl, .inl ⟨fl, fm, rfl, k⟩⟩
            · obtain ⟨fn, fv, fsh⟩ := fl
              cases fsh with
              | base zb =>
                obtain rfl : fv = .str zb := shD
                refine ⟨.str zb, rfl, _, _, _, _, true, rfl, .ty "str", .base (.str zb), kit_ty (by decide +kernel), ?_⟩
                exact ⟨true, rfl, false, rfl, iteF (rest2 _ _ ⟨rfl, rfl⟩)⟩
              | sure s' =>
                obtain ⟨aa, uu, rfl, hha, hhu⟩ := (show ∃ a u, fv = .ref a ∧ HD a = some (.tup [.str "sure", u]) ∧ ShAt HD u s' from shD)
                refine ⟨.ref aa, rfl, _, _, _, _, false, rfl, .ty "str", .base (.tup hha), kit_ty (by decide +kernel), ?_⟩
                exact ⟨false, rfl, true, rfl, iteT ⟨.ref aa, rfl, aa, _, 0, _, rfl, rfl, .inl (.inl hha), atI_nat (j := 0) rfl, rfl, rest2 _ _ ⟨rfl, rfl⟩⟩⟩
              | list s' =>
                obtain ⟨aa, uu, rfl, hha, hhu⟩ := (show ∃ a u, fv = .ref a ∧ HD a = some (.tup [.str "list", u]) ∧ ShAt HD u s' from shD)
                refine ⟨.ref aa, rfl, _, _, _, _, false, rfl, .ty "str", .base (.tup hha), kit_ty (by decide +kernel), ?_⟩
                exact ⟨false, rfl, true, rfl, iteT ⟨.ref aa, rfl, aa, _, 0, _, rfl, rfl, .inl (.inl hha), atI_nat (j := 0) rfl, rfl, rest2 _ _ ⟨rfl, rfl⟩⟩⟩
          · rcases hb with ⟨g, rfl, hg⟩ | ⟨t, ht, hk⟩
            · have hv : valV (fkv fds) (Sum.inr g) = none := valV_out (f := fun f : Fld => f.1) (g := fun f => f.2.1) hg
              refine ⟨.str g, rfl, _, _, _, _, true, rfl, .ty "str", .base (.str g), kit_ty (by decide +kernel), true, rfl, iteT ⟨.str g, rfl, .ref d, rfl, d, _, rfl, .inl ⟨fkv fds, .inr g, .inl eD2, rfl, rfl⟩, _, rfl, ?_⟩⟩
              rw [hv]
              exact iteF (rest _ _ (bad (.inl ⟨g, rfl, hg⟩)))
            · exact ⟨y, rfl, _, _, _, _, false, rfl, .ty "str", ht _ sD, hk, false, rfl, iteF (rest _ _ (bad (.inr ⟨t, ht, hk⟩)))⟩
      · rintro σ H4 ⟨y10, y11, y12, y13, rfl, s⟩
        exact ⟨_, _, _, _, _, _, _, rfl, sC.trans s⟩
    · rintro σ H4 ⟨y7, y8, y9, y10, y11, y12, y13, rfl, s4⟩
      dsimp only
      refine cut1 (fun σ' H2 => σ' = [some (.ref a), some (.ref b), some (.ref q0), some (.ref x), some sv, some ov, some (.ref p10), y7, y8, y9, y10, y11, y12, y13, none, none, none, none] ∧ Same H9 H2 ∧ ((∃ z, sv = .str z ∧ z ∉ bsOf ks fs us) ∨ ∃ t, (∀ H', Same H9 H' → TyX K H' sv t) ∧ PySem.W.kitOne K t (.type "str") = some false)) ?_ (fun rest => ?_)
      · rintro σ' H2 ⟨rfl, s2, hbad⟩
        have hbadH : ∀ H', Same H9 H' → ((∃ z, sv = .str z ∧ z ∉ bsOf ks fs us) ∨ ∃ t, TyX K H' sv t ∧ PySem.W.kitOne K t (.type "str") = some false) := fun H' s => by
          rcases hbad with h | ⟨t, ht, hk⟩
          · exact .inl h
          · exact .inr ⟨t, ht H' s, hk⟩
        obtain ⟨dx, kt', ft', ut', hx⟩ := insx H2 s2
        refine ⟨.ref x, rfl, x, dx, _, rfl, hx, lkn _ _ _ _ (by decide +kernel) (by decide +kernel) (by decide +kernel) (by decide +kernel), sv, rfl, x, sv, ks, fs, us, root, rfl, BtA s2, ok, .inr ⟨hbadH H2 s2, fun dd H3' s3' _ ed => ⟨true, exm, fun _ e ne => ⟨.ref e, rfl, rfl, rfl, dd, _, sv, rfl, ed, rfl, sv, rfl, _, _, rfl, (od9 H3' (s2.trans s3')).same H3' Gr.refl, fun H5 s5 => ?_⟩, fun z => nomatch z⟩⟩⟩
        have s25 := (s2.trans s3').trans s5
        refine ⟨3, rfl, by decide, by decide, fun Da nD => lc_tups (walk_range (lo := 0) (n := 3)) (fun i x => x = .int (0 + (i : Int))) (fun _ => [.str "base", sv]) (fun i H x H' hi y => y) (fun _ _ => trivial) nD (by decide) (fun _ => rfl) ?_ ?_⟩
        · rintro i v H6 Q6 hi rfl s6 hk
          exact ⟨.ref x, rfl, sv, rfl, ov, rfl, _, rfl, x, sv, ov, _, i, ks, fs, us, root, rfl, by omega, hi, BtA (s25.trans s6), ok, .inr ⟨hbadH H6 (s25.trans s6), hk⟩⟩
        · intro H6 ps s6 e6 hl al
          have s26 := s25.trans s6
          refine ⟨.bl true, rfl, true, rfl, iteT ⟨.ref Da, rfl, sv, rfl, hS 2 (by decide), fun pt nt => ⟨hS 1 (by decide), fun pl nl => ⟨pl, 3, _, rfl, rfl, upd_same, by decide, by decide, hS 3 (by decide), fun pd npd => ?_⟩⟩⟩⟩
          have u1 := same_new (o := .tup [.str "base", sv]) nt
          have u2 := same_new (o := .lst [.ref pt]) nl
          have u3 := same_new (o := .lst (List.replicate (3 : Int).toNat [V.ref pt]).flatten) npd
          have uu := u1.trans (u2.trans u3)
          have et := u3 _ _ (u2 _ _ (upd_same (H := H6) (a := pt) (o := .tup [.str "base", sv])))
          refine ⟨_, _, rfl, SameV.tups (n := 4) (ps := ps) (qs := [pt, pt, pt]) (T := fun _ => [.str "base", sv]) (uu _ _ e6) upd_same hl (by show 3 ≤ 1000; decide) (fun i p e => uu _ _ (al i p e)) ?_ ?_, fun H7 _ => q H7⟩
          · intro i p e
            match i, e with
            | 0, e => cases e; exact et
            | 1, e => cases e; exact et
            | 2, e => cases e; exact et
            | i + 3, e => cases e
          · intro i _
            refine ⟨by show 2 ≤ 1000; decide, fun v m => ?_⟩
            simp only [List.mem_cons, List.not_mem_nil, or_false] at m
            rcases m with rfl | rfl
            · exact SameV.strV
            · exact SameV.le (by decide) ((od9 _ (s26.trans uu)).same _ Gr.refl)
      · rcases (od9 H9 (fun _ _ e => e)).kind with ⟨z, e⟩ | ⟨t, ht, hk⟩
        · subst e
          refine ⟨.str z, rfl, _, _, _, _, true, rfl, .ty "str", .base (.str z), kit_ty (by decide +kernel), true, rfl, iteT ⟨.str z, rfl, .ref p10, rfl, p10, _, rfl, .inl (SqL.of (s4 _ _ e10)), rfl, flat_map LB, ?_⟩⟩
          rw [inV_strs]
          by_cases hzb : z ∈ LB
          · exact ⟨true, by rw [decide_eq_true hzb]; rfl, iteT (q H4)⟩
          · exact ⟨false, by rw [decide_eq_false hzb]; rfl, iteF (rest _ _ ⟨rfl, s4, .inl ⟨z, rfl, fun h => hzb ((hLBm z).mpr h)⟩⟩)⟩
        · exact ⟨sv, rfl, _, _, _, _, false, rfl, .ty "str", ht _ (Same.gr s4), hk, false, rfl, iteF (rest _ _ ⟨rfl, s4, .inr ⟨t, fun H' s => ht H' (Same.gr s), hk⟩⟩)⟩
end
end NW
namespace NW
open PySem PySem.Spec PyProof.Rows L2
section
variable {K : PySem.W.Frag} {h : Heap} {mg : Str → Option Value} {nm qn : Str} {d0 : Stmt} {fa C : Addr} {pars : List Str} {oc kV dc pm cd ct : Value} {od an : Option Addr} {sl : Array (Option Value)}
theorem df_mk (X : K.In h) (G : h.Ns mainGlobals mg) (a : PySem.W.nsIn K mainGlobals nm = some (some (.ref fa)))
    (l : K.lookup fa = some ⟨oc, od, .func (PySem.W.fnOf nm nm (defArgs d0) (defBody d0) (defScope d0) .none kV dc pm an cd ct), sl⟩) (c : PySem.W.codeIn K cd nm = true) (k : PySem.W.keepIn K (.ref fa) = true)
    (b : ∀ (kV doc pm : Value) (an : Option Addr) (cdv ct : Value) (us : List Value), us.length = pars.length → bindArgs (PySem.W.fnOf nm nm (defArgs d0) (defBody d0) (defScope d0) .none kV doc pm an cdv ct) ⟨us, []⟩ = pure (pars.zip us)) :
    ∃ f fd, Df K mg nm d0 f fd pars := ⟨fa, _, fun_mk l c k, (fun_mk l c k).binds b, PySem.W.mg_of X G a⟩
theorem mt_mk (a : PySem.W.findIn K (.ref C) nm = some (some (.ref fa))) (i : PySem.W.isFn K (.ref fa) = true)
    (l : K.lookup fa = some ⟨oc, od, .func (PySem.W.fnOf nm qn (defArgs d0) (defBody d0) (defScope d0) .none kV dc pm an cd ct), sl⟩) (c : PySem.W.codeIn K cd qn = true) (k : PySem.W.keepIn K (.ref fa) = true)
    (b : ∀ (kV doc pm : Value) (an : Option Addr) (cdv ct : Value) (us : List Value), us.length = pars.length → bindArgs (PySem.W.fnOf nm qn (defArgs d0) (defBody d0) (defScope d0) .none kV doc pm an cdv ct) ⟨us, []⟩ = pure (pars.zip us)) :
    ∃ f fd, Mt K C nm qn d0 f fd pars := ⟨fa, _, fun_mk l c k, (fun_mk l c k).binds b, a, i, k⟩
theorem tup_mk {a : Addr} {n : Nat} {z1 z2 : Str} {t1 t2 : Nat} (l : K.lookup a = some ⟨.type "tuple", od, .seq #[.str z1 t1, .str z2 t2] n, sl⟩) : ∀ H, SqT K H a [.str z1, .str z2] := fun H =>
  .inr ⟨_, _, _, l, rfl, rfl, by show 2 ≤ sizeLine; decide, .cons ⟨_, rfl⟩ (.cons ⟨_, rfl⟩ .nil)⟩
end
theorem dfs_mk {K : PySem.W.Frag} {h : Heap} {mg : Str → Option Value} (X : K.In h) (G : h.Ns mainGlobals mg) {fa T : Addr} {oc kV dc pm cd ct : Value} {od an od2 : Option Addr} {sl sl2 : Array (Option Value)} {n t1 t2 : Nat} {tc : Value}
    (a : PySem.W.nsIn K mainGlobals "is_shape" = some (some (.ref fa)))
    (l : K.lookup fa = some ⟨oc, od, .func (PySem.W.fnOf "is_shape" "is_shape" (defArgs s_is_shape) (defBody s_is_shape) (defScope s_is_shape) (.ref T) kV dc pm an cd ct), sl⟩) (c : PySem.W.codeIn K cd "is_shape" = true) (k : PySem.W.keepIn K (.ref fa) = true)
    (lT : K.lookup T = some ⟨tc, od2, .seq #[.int 4 t1, .str "" t2] n, sl2⟩) : ∃ f fd, DfS K mg f fd := by
  have F : FunD K "is_shape" "is_shape" (defArgs s_is_shape) (defBody s_is_shape) (defScope s_is_shape) [.int 4, .str ""] [] fa _ :=
    ⟨⟨oc, od, .ref T, kV, dc, pm, an, cd, ct, sl, rfl, l, c, .inr ⟨(by intro z; cases z), T, _, [.int 4 t1, .str "" t2], n, rfl, lT, rfl, .cons ⟨_, rfl⟩ (.cons ⟨_, rfl⟩ .nil)⟩, .inl rfl⟩, k⟩
  refine ⟨fa, _, F, PySem.W.mg_of X G a, ?_, ?_⟩
  · obtain ⟨ds, r, b⟩ := F.binds1 (ps := ["shape", "bases", "room", "outer"]) 4 2 (by intro z; cases z) rfl fun T kV doc pm an cdv ct us its hu hi => match us, hu, its, hi with | [_, _, _, _], _, [_, _], _ => ⟨_, rfl, rfl⟩
    cases r
    exact b
  · exact F.binds1 (ps := ["shape", "bases", "room", "outer"]) 2 0 (by intro z; cases z) rfl fun T kV doc pm an cdv ct us its hu hi => match us, hu, its, hi with | [_, _], _, [_, _], _ => ⟨_, rfl, rfl⟩
end NW
namespace NW
open PySem PySem.Spec PyProof.Rows L2
theorem okLsameH {P : Program} {w : World} {K : PySem.W.Frag} {mg : Str → Option Value} {base : Heap} {f : Addr} {fd : FuncData} (D_Lsame : Df K mg "_law_same" s_Lsame f fd ["_law_one", "_law_other"]) (T : Nms mg) : L2H.FnH P w K mg base CX0 3 f fd ["_law_one", "_law_other"] (spLsame 2) := ok_LsameH D_Lsame T 2
theorem all_ok {P : Program} {w : World} {K : PySem.W.Frag} {mg : Str → Option Value} {base : Heap} {fl C CN CF : Addr} {fdl : FuncData} (D : Df K mg "law" s_law fl fdl ["_law_script"])
    (D_is_name : ∃ f fd, Df K mg "is_name" s_is_name f fd ["word"])
    (D_is_key : ∃ f fd, Df K mg "is_key" s_is_key f fd ["name", "table"])
    (D_is_table : ∃ f fd, Df K mg "is_table" s_is_table f fd ["table", "least", "most", "taken"])
    (D_is_choice : ∃ f fd, Df K mg "is_choice" s_is_choice f fd ["names", "table"])
    (D_is_fields : ∃ f fd, Df K mg "is_fields" s_is_fields f fd ["fields", "most", "bases"])
    (D_is_kind : ∃ f fd, Df K mg "is_kind" s_is_kind f fd ["worth", "faces", "bases"])
    (D_has_fields : ∃ f fd, Df K mg "has_fields" s_has_fields f fd ["holder", "fields"])
    (D_is_union : ∃ f fd, Df K mg "is_union" s_is_union f fd ["worth", "kinds"])
    (D_is_face : ∃ f fd, Df K mg "is_face" s_is_face f fd ["name", "fields", "kinds", "bases"])
    (D_check_names : ∃ f fd, Df K mg "check_names" s_check_names f fd ["kinds", "faces", "unions"])
    (D_check_schema : ∃ f fd, Df K mg "check_schema" s_check_schema f fd ["kinds", "faces", "unions", "root"])
    (D_Lbox : ∃ f fd, Df K mg "_law_box" s_Lbox f fd ["_law_script"])
    (D_Ldraw : ∃ f fd, Df K mg "_law_draw" s_Ldraw f fd ["_law_box_here", "_law_many"])
    (D_Lwords : ∃ f fd, Df K mg "_law_words" s_Lwords f fd ["_law_box_here", "_law_many"])
    (D_Lshape : ∃ f fd, Df K mg "_law_shape" s_Lshape f fd ["_law_box_here", "_law_bases_here", "_law_most"])
    (D_Lkind : ∃ f fd, Df K mg "_law_kind" s_Lkind f fd ["_law_box_here", "_law_faces", "_law_names", "_law_common", "_law_bases_here", "_law_most"])
    (D_Lschema : ∃ f fd, Df K mg "_law_schema" s_Lschema f fd ["_law_box_here", "_law_most", "_law_kinds"])
    (D_Lbases : ∃ f fd, Df K mg "_law_bases" s_Lbases f fd ["_law_schema_here"])
    (D_Lmade : ∃ f fd, Df K mg "_law_made" s_Lmade f fd ["_law_schema_here"])
    (D_Lsame : ∃ f fd, Df K mg "_law_same" s_Lsame f fd ["_law_one", "_law_other"])
    (D_Lstrange : ∃ f fd, Df K mg "_law_strange" s_Lstrange f fd ["_law_box_here"])
    (D_target_of : ∃ f fd, Df K mg "target_of" s_target_of f fd ["shape"])
    (D_is_sure : ∃ f fd, Df K mg "is_sure" s_is_sure f fd ["shape"])
    (D_Ltable : ∃ f fd, Df K mg "_law_table" s_Ltable f fd ["_law_schema_here", "_law_base"])
    (D_Ltarget : ∃ f fd, Df K mg "_law_target" s_Ltarget f fd ["_law_shape_here"])
    (D_Lasked : ∃ f fd, Df K mg "_law_asked" s_Lasked f fd ["_law_built", "_law_base", "_law_field", "_law_way"])
    (D_is_shape : ∃ f fd, DfS K mg f fd)
    (M_bases : ∃ f fd, Mt K C "bases" "Schema.bases" s_Schema_bases f fd ["self"])
    (M_shapes_at : ∃ f fd, Mt K C "shapes_at" "Schema.shapes_at" s_Schema_shapes_at f fd ["self", "base"])
    (M_fields : ∃ f fd, Mt K C "fields" "Schema.fields" s_Schema_fields f fd ["self", "base"])
    (M_shape_of : ∃ f fd, Mt K C "shape_of" "Schema.shape_of" s_Schema_shape_of f fd ["self", "base", "field"])
    (M_target : ∃ f fd, Mt K C "target" "Schema.target" s_Schema_target f fd ["self", "base", "field"])
    (M_sure : ∃ f fd, Mt K C "sure" "Schema.sure" s_Schema_sure f fd ["self", "base", "field"])
    (I : ∃ f fd, Fun K "__init__" "Schema.__init__" s_Schema_init f fd ∧ Binds K fd ["self", "kinds", "faces", "unions", "root"] [] ∧ Mk K C f)
    (J : ∃ f fd, Fun K "__contains__" "Schema.__contains__" s_Schema_contains f fd ∧ Binds K fd ["self", "base"] [] ∧ InM K C f)
    (B_NoBase : ∃ f fd, Fun K "__init__" "NoBase.__init__" s_NoBase_init f fd ∧ Binds K fd ["self", "base"] [] ∧ NoB K mg CN f)
    (B_NoField : ∃ f fd, Fun K "__init__" "NoField.__init__" s_NoField_init f fd ∧ Binds K fd ["self", "base", "field"] [] ∧ NoF K mg CF f)
    (T : Nms mg) (Cs : Cst K mg) (L : ClT K C) (gS : mg "Schema" = some (.ref C))
    (X_NoBase : XfC K CN)
    (X_NoField : XfC K CF)
    (f_NoBase_base : PySem.W.findIn K (.ref CN) "base" = some none)
    (f_NoField_base : PySem.W.findIn K (.ref CF) "base" = some none)
    (f_NoField_field : PySem.W.findIn K (.ref CF) "field" = some none)
    (e_CN_CN : PySem.W.exmOne K (.ref CN) (.ref CN) = some true)
    (e_CF_CN : PySem.W.exmOne K (.ref CF) (.ref CN) = some false)
    (e_CF_CF : PySem.W.exmOne K (.ref CF) (.ref CF) = some true) :
    FnOk P w K mg base CX0 12 fl fdl ["_law_script"] (spLaw K) := by
  obtain ⟨f_is_name, fd_is_name, D_is_name⟩ := D_is_name
  obtain ⟨f_is_key, fd_is_key, D_is_key⟩ := D_is_key
  obtain ⟨f_is_table, fd_is_table, D_is_table⟩ := D_is_table
  obtain ⟨f_is_choice, fd_is_choice, D_is_choice⟩ := D_is_choice
  obtain ⟨f_is_fields, fd_is_fields, D_is_fields⟩ := D_is_fields
  obtain ⟨f_is_kind, fd_is_kind, D_is_kind⟩ := D_is_kind
  obtain ⟨f_has_fields, fd_has_fields, D_has_fields⟩ := D_has_fields
  obtain ⟨f_is_union, fd_is_union, D_is_union⟩ := D_is_union
  obtain ⟨f_is_face, fd_is_face, D_is_face⟩ := D_is_face
  obtain ⟨f_check_names, fd_check_names, D_check_names⟩ := D_check_names
  obtain ⟨f_check_schema, fd_check_schema, D_check_schema⟩ := D_check_schema
  obtain ⟨f_Lbox, fd_Lbox, D_Lbox⟩ := D_Lbox
  obtain ⟨f_Ldraw, fd_Ldraw, D_Ldraw⟩ := D_Ldraw
  obtain ⟨f_Lwords, fd_Lwords, D_Lwords⟩ := D_Lwords
  obtain ⟨f_Lshape, fd_Lshape, D_Lshape⟩ := D_Lshape
  obtain ⟨f_Lkind, fd_Lkind, D_Lkind⟩ := D_Lkind
  obtain ⟨f_Lschema, fd_Lschema, D_Lschema⟩ := D_Lschema
  obtain ⟨f_Lbases, fd_Lbases, D_Lbases⟩ := D_Lbases
  obtain ⟨f_Lmade, fd_Lmade, D_Lmade⟩ := D_Lmade
  obtain ⟨f_Lsame, fd_Lsame, D_Lsame⟩ := D_Lsame
  obtain ⟨f_Lstrange, fd_Lstrange, D_Lstrange⟩ := D_Lstrange
  obtain ⟨f_target_of, fd_target_of, D_target_of⟩ := D_target_of
  obtain ⟨f_is_sure, fd_is_sure, D_is_sure⟩ := D_is_sure
  obtain ⟨f_Ltable, fd_Ltable, D_Ltable⟩ := D_Ltable
  obtain ⟨f_Ltarget, fd_Ltarget, D_Ltarget⟩ := D_Ltarget
  obtain ⟨f_Lasked, fd_Lasked, D_Lasked⟩ := D_Lasked
  obtain ⟨f_is_shape, fd_is_shape, D_is_shape⟩ := D_is_shape
  obtain ⟨f_bases, fd_bases, M_bases⟩ := M_bases
  obtain ⟨f_shapes_at, fd_shapes_at, M_shapes_at⟩ := M_shapes_at
  obtain ⟨f_fields, fd_fields, M_fields⟩ := M_fields
  obtain ⟨f_shape_of, fd_shape_of, M_shape_of⟩ := M_shape_of
  obtain ⟨f_target, fd_target, M_target⟩ := M_target
  obtain ⟨f_sure, fd_sure, M_sure⟩ := M_sure
  obtain ⟨fI, fdI, FI, bI, MS⟩ := I
  obtain ⟨fJ, fdJ, FJ, bJ, mC⟩ := J
  obtain ⟨fNoBase, fdNoBase, FNoBase, bNoBase, NNoBase⟩ := B_NoBase
  obtain ⟨fNoField, fdNoField, FNoField, bNoField, NNoField⟩ := B_NoField
  have G_is_table := ok_is_table (P := P) (w := w) (base := base) D_is_table D_is_name T Cs
  have G_is_key := ok_is_key (P := P) (w := w) (base := base) D_is_key T
  have G_is_choice := ok_is_choice (P := P) (w := w) (base := base) D_is_choice D_is_key T
  have G_is_fields := ok_is_fields D_is_fields D_is_table D_is_shape T Cs G_is_table
  have G_is_kind := ok_is_kind D_is_kind D_is_choice D_is_fields T Cs G_is_choice G_is_fields
  have G_is_union := ok_is_union D_is_union D_is_choice T Cs G_is_choice
  have G_is_face := ok_is_face D_is_face D_is_fields D_has_fields T Cs G_is_fields
  have G_check_names := ok_check_names D_check_names D_is_table T Cs G_is_table
  have G_check_schema := ok_check_schema D_check_schema D_check_names D_is_kind D_is_face D_is_union D_is_key T Cs G_check_names G_is_kind G_is_face G_is_union G_is_key
  have G_init := ok_init FI D_check_schema T L G_check_schema
  have G_bases := ok_bases (P := P) (w := w) (base := base) M_bases.F L Cs
  have G_contains := ok_contains FJ M_bases D_is_key T L G_bases G_is_key
  have G_Ldraw := ok_Ldraw (P := P) (w := w) (base := base) D_Ldraw T
  have G_Lwords := ok_Lwords (P := P) (w := w) (base := base) D_Lwords D_Ldraw T
  have G_Lshape := ok_Lshape (P := P) (w := w) (base := base) D_Lshape D_Ldraw T
  have G_Lkind := ok_Lkind (P := P) (w := w) (base := base) D_Lkind D_Ldraw D_Lshape T
  have G_Lschema := ok_Lschema D_Lschema D_Ldraw D_Lshape D_Lwords D_Lkind T G_Ldraw G_Lshape G_Lwords G_Lkind
  have G_NB := ok_NB (P := P) (w := w) (mg := mg) (base := base) FNoBase NNoBase
  have G_NF := ok_NF (P := P) (w := w) (mg := mg) (base := base) FNoField NNoField
  have G_shapes_at := ok_shapes_at M_shapes_at.F mC bJ G_contains NNoBase bNoBase G_NB T L
  have G_fields := ok_fields M_fields.F M_shapes_at G_shapes_at T L
  have G_shape_of := ok_shape_of M_shape_of.F M_shapes_at G_shapes_at D_is_key G_is_key NNoField bNoField G_NF T L
  have G_target := ok_target M_target.F M_shape_of G_shape_of D_target_of (ok_target_of D_target_of T 4) T L
  have G_sure := ok_sure M_sure.F M_shape_of G_shape_of D_is_sure (ok_is_sure D_is_sure T) T L
  have G_Lasked := ok_Lasked D_Lasked M_shape_of G_shape_of M_target G_target M_sure G_sure T L NNoBase.g NNoField.g X_NoBase X_NoField f_NoBase_base f_NoField_base f_NoField_field e_CN_CN e_CF_CN e_CF_CF
  exact ok_law (CF := CF) D D_Lbox (ok_Lbox D_Lbox T) D_Lschema G_Lschema D_Lmade (ok_Lmade D_Lmade T MS gS bI G_init) D_Lstrange (ok_Lstrange D_Lstrange D_Ldraw T) D_Lwords G_Lwords D_Ldraw G_Ldraw D_Lbases (ok_Lbases D_Lbases T)
    D_Ltable (ok_Ltable D_Ltable T) D_Ltarget (ok_Ltarget D_Ltarget T) D_Lasked G_Lasked D_Lsame (ok_Lsame D_Lsame T 6) (okLsameH D_Lsame T) M_fields G_fields T L NNoBase.g X_NoBase f_NoBase_base e_CN_CN
end NW
namespace NW
open PySem PySem.Spec PyProof.Rows L2
structure ClsAll (K : PySem.W.Frag) (mg : Str → Option Value) (C CN CF : Addr) : Prop where
  m0 : ∃ f fd, Mt K C "bases" "Schema.bases" s_Schema_bases f fd ["self"]
  m1 : ∃ f fd, Mt K C "shapes_at" "Schema.shapes_at" s_Schema_shapes_at f fd ["self", "base"]
  m2 : ∃ f fd, Mt K C "fields" "Schema.fields" s_Schema_fields f fd ["self", "base"]
  m3 : ∃ f fd, Mt K C "shape_of" "Schema.shape_of" s_Schema_shape_of f fd ["self", "base", "field"]
  m4 : ∃ f fd, Mt K C "target" "Schema.target" s_Schema_target f fd ["self", "base", "field"]
  m5 : ∃ f fd, Mt K C "sure" "Schema.sure" s_Schema_sure f fd ["self", "base", "field"]
  I : ∃ f fd, L2.Fun K "__init__" "Schema.__init__" s_Schema_init f fd ∧ L2.Binds K fd ["self", "kinds", "faces", "unions", "root"] [] ∧ L2.Mk K C f
  J : ∃ f fd, L2.Fun K "__contains__" "Schema.__contains__" s_Schema_contains f fd ∧ L2.Binds K fd ["self", "base"] [] ∧ InM K C f
  B_NoBase : ∃ f fd, L2.Fun K "__init__" "NoBase.__init__" s_NoBase_init f fd ∧ L2.Binds K fd ["self", "base"] [] ∧ NoB K mg CN f
  B_NoField : ∃ f fd, L2.Fun K "__init__" "NoField.__init__" s_NoField_init f fd ∧ L2.Binds K fd ["self", "base", "field"] [] ∧ NoF K mg CF f
  L : ClT K C
  X_NoBase : L2.XfC K CN
  X_NoField : L2.XfC K CF
  f_NoBase_base : PySem.W.findIn K (.ref CN) "base" = some none
  f_NoField_base : PySem.W.findIn K (.ref CF) "base" = some none
  f_NoField_field : PySem.W.findIn K (.ref CF) "field" = some none
  e_CN_CN : PySem.W.exmOne K (.ref CN) (.ref CN) = some true
  e_CF_CN : PySem.W.exmOne K (.ref CF) (.ref CN) = some false
  e_CF_CF : PySem.W.exmOne K (.ref CF) (.ref CF) = some true
theorem cst_mk {K : PySem.W.Frag} {h : Heap} {mg : Str → Option Value} (X : K.In h) (G : h.Ns mainGlobals mg) {v0 v1 v4 v5 v6 v7 v8 v9 : Value} {a2 a3 : Addr} {p2 p3 : Option Addr} {s2 s3 : Array (Option Value)} {n2 n3 : Nat} {t2 u2 t3 u3 : Nat}
    (c0 : PySem.W.nsIn K mainGlobals "LETTERS" = some (some v0)) (d0 : ∃ t, v0 = .str LET t) (c1 : PySem.W.nsIn K mainGlobals "LONGEST" = some (some v1)) (d1 : ∃ t, v1 = .int 8 t)
    (c2 : PySem.W.nsIn K mainGlobals "LEAVES" = some (some (.ref a2))) (l2 : K.lookup a2 = some ⟨.type "tuple", p2, .seq #[.str "number" t2, .str "text" u2] n2, s2⟩)
    (c3 : PySem.W.nsIn K mainGlobals "WRAPPERS" = some (some (.ref a3))) (l3 : K.lookup a3 = some ⟨.type "tuple", p3, .seq #[.str "list" t3, .str "sure" u3] n3, s3⟩)
    (c4 : PySem.W.nsIn K mainGlobals "MOST_KINDS" = some (some v4)) (d4 : ∃ t, v4 = .int 6 t) (c5 : PySem.W.nsIn K mainGlobals "MOST_FACES" = some (some v5)) (d5 : ∃ t, v5 = .int 3 t)
    (c6 : PySem.W.nsIn K mainGlobals "MOST_UNIONS" = some (some v6)) (d6 : ∃ t, v6 = .int 3 t) (c7 : PySem.W.nsIn K mainGlobals "MOST_KIND_FIELDS" = some (some v7)) (d7 : ∃ t, v7 = .int 5 t)
    (c8 : PySem.W.nsIn K mainGlobals "MOST_FACE_FIELDS" = some (some v8)) (d8 : ∃ t, v8 = .int 4 t) (c9 : PySem.W.nsIn K mainGlobals "MOST_UNION_KINDS" = some (some v9)) (d9 : ∃ t, v9 = .int 4 t) : Cst K mg := by
  obtain ⟨_, rfl⟩ := d0
  obtain ⟨_, rfl⟩ := d1
  obtain ⟨_, rfl⟩ := d4
  obtain ⟨_, rfl⟩ := d5
  obtain ⟨_, rfl⟩ := d6
  obtain ⟨_, rfl⟩ := d7
  obtain ⟨_, rfl⟩ := d8
  obtain ⟨_, rfl⟩ := d9
  exact ⟨⟨_, PySem.W.mg_of X G c0⟩, ⟨_, PySem.W.mg_of X G c1⟩, ⟨_, PySem.W.mg_of X G c2, tup_mk l2⟩, ⟨_, PySem.W.mg_of X G c3, tup_mk l3⟩, ⟨_, PySem.W.mg_of X G c4⟩, ⟨_, PySem.W.mg_of X G c5⟩, ⟨_, PySem.W.mg_of X G c6⟩, ⟨_, PySem.W.mg_of X G c7⟩, ⟨_, PySem.W.mg_of X G c8⟩, ⟨_, PySem.W.mg_of X G c9⟩⟩
theorem cls_mk {K : PySem.W.Frag} {h : Heap} {mg : Str → Option Value} (X : K.In h) (G : h.Ns mainGlobals mg) {C CN CF : Addr} (s : PySem.W.nsIn K mainGlobals "Schema" = some (some (.ref C)))
    (s_NoBase : PySem.W.nsIn K mainGlobals "NoBase" = some (some (.ref CN)))
    (s_NoField : PySem.W.nsIn K mainGlobals "NoField" = some (some (.ref CF)))
    (m : mg "NoBase" = some (.ref CN) → mg "NoField" = some (.ref CF) → ClsAll K mg C CN CF) : ∃ C CN CF, mg "Schema" = some (.ref C) ∧ mg "NoBase" = some (.ref CN) ∧ mg "NoField" = some (.ref CF) ∧ ClsAll K mg C CN CF :=
  ⟨C, CN, CF, PySem.W.mg_of X G s, PySem.W.mg_of X G s_NoBase, PySem.W.mg_of X G s_NoField, m (PySem.W.mg_of X G s_NoBase) (PySem.W.mg_of X G s_NoField)⟩
theorem init_mk {K : PySem.W.Frag} {C fa : Addr} {oc kV dc pm cd ct : Value} {od an : Option Addr} {sl : Array (Option Value)} (i2 : PySem.W.findIn K (.ref C) "__init__" = some (some (.ref fa)))
    (l : K.lookup fa = some ⟨oc, od, .func (PySem.W.fnOf "__init__" "Schema.__init__" (defArgs s_Schema_init) (defBody s_Schema_init) (defScope s_Schema_init) .none kV dc pm an cd ct), sl⟩) (c : PySem.W.codeIn K cd "Schema.__init__" = true) (k : PySem.W.keepIn K (.ref fa) = true)
    (i1 : PySem.W.makesIn K C = true) (i3 : PySem.W.isFn K (.ref fa) = true) (i4 : PySem.W.keepIn K (.ref C) = true) : ∃ f fd, L2.Fun K "__init__" "Schema.__init__" s_Schema_init f fd ∧ L2.Binds K fd ["self", "kinds", "faces", "unions", "root"] [] ∧ L2.Mk K C f :=
  ⟨fa, _, fun_mk l c k, (fun_mk l c k).binds (fun _ _ _ _ _ _ us hl => match us, hl with | [_, _, _, _, _], _ => rfl), ⟨i1, i2, i3, i4⟩⟩
theorem cont_mk {K : PySem.W.Frag} {C fa : Addr} {oc kV dc pm cd ct : Value} {od an : Option Addr} {sl : Array (Option Value)} (i1 : PySem.W.findIn K (.ref C) "__contains__" = some (some (.ref fa)))
    (l : K.lookup fa = some ⟨oc, od, .func (PySem.W.fnOf "__contains__" "Schema.__contains__" (defArgs s_Schema_contains) (defBody s_Schema_contains) (defScope s_Schema_contains) .none kV dc pm an cd ct), sl⟩) (c : PySem.W.codeIn K cd "Schema.__contains__" = true) (k : PySem.W.keepIn K (.ref fa) = true)
    (i2 : PySem.W.isFn K (.ref fa) = true) : ∃ f fd, L2.Fun K "__contains__" "Schema.__contains__" s_Schema_contains f fd ∧ L2.Binds K fd ["self", "base"] [] ∧ InM K C f :=
  ⟨fa, _, fun_mk l c k, (fun_mk l c k).binds (fun _ _ _ _ _ _ us hl => match us, hl with | [_, _], _ => rfl), ⟨i1, i2⟩⟩
theorem NoBase_mk {K : PySem.W.Frag} {mg : Str → Option Value} {C fa : Addr} {oc kV dc pm cd ct : Value} {od an : Option Addr} {sl : Array (Option Value)} {nm q : Str} {N : Addr} {bs : List Value} {bm : List Value} {sn : List Str} {sub : List Value} {ab : Bool} {col : Option Bool} {dd : Option Addr} {m0 m1 m2 m3 m5 : Option Value}
    (i1 : PySem.W.findIn K (.ref C) "__init__" = some (some (.ref fa)))
    (l : K.lookup fa = some ⟨oc, od, .func (PySem.W.fnOf "__init__" "NoBase.__init__" (defArgs s_NoBase_init) (defBody s_NoBase_init) (defScope s_NoBase_init) .none kV dc pm an cd ct), sl⟩) (c : PySem.W.codeIn K cd "NoBase.__init__" = true) (k : PySem.W.keepIn K (.ref fa) = true)
    (o1 : K.lookup C = some (excClassObj nm q C N bs bm true sn sub ab col dd m0 m1 m2 m3 m5 "ValueError.__new__")) (o2 : PySem.HandSPX.refsVE bm = true) (o3 : PySem.W.findIn K (.ref C) "__setattr__" = some (some (.builtin "object.__setattr__")))
    (o4 : PySem.W.subIn K (.ref C) (.type "BaseException") = some true) (o5 : PySem.W.typeIn K (.ref C) = some (.type "type")) (o6 : PySem.W.keepIn K (.ref C) = true) (i2 : PySem.W.typeIn K (.ref fa) = some (.type "function"))
    (g : mg "NoBase" = some (.ref C)) (no0 : PySem.W.findIn K (.ref C) "base" = some none) : ∃ f fd, L2.Fun K "__init__" "NoBase.__init__" s_NoBase_init f fd ∧ L2.Binds K fd ["self", "base"] [] ∧ NoB K mg C f :=
  ⟨fa, _, fun_mk l c k, (fun_mk l c k).binds (fun _ _ _ _ _ _ us hl => match us, hl with | [_, _], _ => rfl), ⟨⟨⟨_, _, _, _, _, _, _, _, _, _, _, _, _, _, _, o1, o2⟩, o3, o4, o5, o6⟩, i1, i2, g, no0⟩⟩
theorem NoField_mk {K : PySem.W.Frag} {mg : Str → Option Value} {C fa : Addr} {oc kV dc pm cd ct : Value} {od an : Option Addr} {sl : Array (Option Value)} {nm q : Str} {N : Addr} {bs : List Value} {bm : List Value} {sn : List Str} {sub : List Value} {ab : Bool} {col : Option Bool} {dd : Option Addr} {m0 m1 m2 m3 m5 : Option Value}
    (i1 : PySem.W.findIn K (.ref C) "__init__" = some (some (.ref fa)))
    (l : K.lookup fa = some ⟨oc, od, .func (PySem.W.fnOf "__init__" "NoField.__init__" (defArgs s_NoField_init) (defBody s_NoField_init) (defScope s_NoField_init) .none kV dc pm an cd ct), sl⟩) (c : PySem.W.codeIn K cd "NoField.__init__" = true) (k : PySem.W.keepIn K (.ref fa) = true)
    (o1 : K.lookup C = some (excClassObj nm q C N bs bm true sn sub ab col dd m0 m1 m2 m3 m5 "ValueError.__new__")) (o2 : PySem.HandSPX.refsVE bm = true) (o3 : PySem.W.findIn K (.ref C) "__setattr__" = some (some (.builtin "object.__setattr__")))
    (o4 : PySem.W.subIn K (.ref C) (.type "BaseException") = some true) (o5 : PySem.W.typeIn K (.ref C) = some (.type "type")) (o6 : PySem.W.keepIn K (.ref C) = true) (i2 : PySem.W.typeIn K (.ref fa) = some (.type "function"))
    (g : mg "NoField" = some (.ref C)) (no0 : PySem.W.findIn K (.ref C) "base" = some none) (no1 : PySem.W.findIn K (.ref C) "field" = some none) : ∃ f fd, L2.Fun K "__init__" "NoField.__init__" s_NoField_init f fd ∧ L2.Binds K fd ["self", "base", "field"] [] ∧ NoF K mg C f :=
  ⟨fa, _, fun_mk l c k, (fun_mk l c k).binds (fun _ _ _ _ _ _ us hl => match us, hl with | [_, _, _], _ => rfl), ⟨⟨⟨_, _, _, _, _, _, _, _, _, _, _, _, _, _, _, o1, o2⟩, o3, o4, o5, o6⟩, i1, i2, g, no0, no1⟩⟩
theorem law_mk {K : PySem.W.Frag} {h : Heap} {mg : Str → Option Value} (X : K.In h) (G : h.Ns mainGlobals mg) {fa : Addr} {oc kV dc pm cd ct : Value} {od an : Option Addr} {sl : Array (Option Value)} (a : PySem.W.nsIn K mainGlobals "law" = some (some (.ref fa)))
    (l : K.lookup fa = some ⟨oc, od, .func (PySem.W.fnOf "law" "law" (defArgs s_law) (defBody s_law) (defScope s_law) .none kV dc pm an cd ct), sl⟩) (c : PySem.W.codeIn K cd "law" = true) (k : PySem.W.keepIn K (.ref fa) = true) :
    ∃ fa fd, Df K mg "law" s_law fa fd ["_law_script"] ∧ ∀ (s : Shared) (v : Value), BindsTo s fd ⟨[v], []⟩ [("_law_script", v)] :=
  ⟨fa, _, ⟨fun_mk l c k, (fun_mk l c k).binds (fun _ _ _ _ _ _ us hl => match us, hl with | [_], _ => rfl), PySem.W.mg_of X G a⟩, fun s v => .of_eq rfl⟩
theorem clsAll_mk {K : PySem.W.Frag} {mg : Str → Option Value} {C CN CF : Addr} (m0 : ∃ f fd, Mt K C "bases" "Schema.bases" s_Schema_bases f fd ["self"])
    (m1 : ∃ f fd, Mt K C "shapes_at" "Schema.shapes_at" s_Schema_shapes_at f fd ["self", "base"])
    (m2 : ∃ f fd, Mt K C "fields" "Schema.fields" s_Schema_fields f fd ["self", "base"])
    (m3 : ∃ f fd, Mt K C "shape_of" "Schema.shape_of" s_Schema_shape_of f fd ["self", "base", "field"])
    (m4 : ∃ f fd, Mt K C "target" "Schema.target" s_Schema_target f fd ["self", "base", "field"])
    (m5 : ∃ f fd, Mt K C "sure" "Schema.sure" s_Schema_sure f fd ["self", "base", "field"])
    (I : ∃ f fd, L2.Fun K "__init__" "Schema.__init__" s_Schema_init f fd ∧ L2.Binds K fd ["self", "kinds", "faces", "unions", "root"] [] ∧ L2.Mk K C f)
    (J : ∃ f fd, L2.Fun K "__contains__" "Schema.__contains__" s_Schema_contains f fd ∧ L2.Binds K fd ["self", "base"] [] ∧ InM K C f)
    (BNoBase : mg "NoBase" = some (.ref CN) → ∃ f fd, L2.Fun K "__init__" "NoBase.__init__" s_NoBase_init f fd ∧ L2.Binds K fd ["self", "base"] [] ∧ NoB K mg CN f)
    (BNoField : mg "NoField" = some (.ref CF) → ∃ f fd, L2.Fun K "__init__" "NoField.__init__" s_NoField_init f fd ∧ L2.Binds K fd ["self", "base", "field"] [] ∧ NoF K mg CF f)
    (l1 : PySem.W.plainGet K C Str.empty = true)
    (l2 : PySem.W.hasDictIn K C = true)
    (l3 : PySem.W.plainOver K C = true)
    (l4 : PySem.W.findIn K (.ref C) "__setattr__" = some (some (.builtin "object.__setattr__")))
    (l5 : PySem.W.findIn K (.ref C) "kind_table" = some none)
    (l6 : PySem.W.findIn K (.ref C) "face_table" = some none)
    (l7 : PySem.W.findIn K (.ref C) "union_table" = some none)
    (l8 : PySem.W.findIn K (.ref C) "root" = some none)
    (x_NoBase_1 : PySem.W.findIn K (.ref CN) "__getattribute__" = some (some (.builtin "BaseException.__getattribute__")))
    (x_NoBase_2 : PySem.W.findIn K (.ref CN) "__getattr__" = some none)
    (x_NoBase_3 : PySem.W.subIn K (.ref CN) (.type "BaseException") = some true)
    (x_NoBase_4 : PySem.W.hasDictIn K CN = true)
    (x_NoField_1 : PySem.W.findIn K (.ref CF) "__getattribute__" = some (some (.builtin "BaseException.__getattribute__")))
    (x_NoField_2 : PySem.W.findIn K (.ref CF) "__getattr__" = some none)
    (x_NoField_3 : PySem.W.subIn K (.ref CF) (.type "BaseException") = some true)
    (x_NoField_4 : PySem.W.hasDictIn K CF = true)
    (f_NoBase_base : PySem.W.findIn K (.ref CN) "base" = some none)
    (f_NoField_base : PySem.W.findIn K (.ref CF) "base" = some none)
    (f_NoField_field : PySem.W.findIn K (.ref CF) "field" = some none)
    (e_CN_CN : PySem.W.exmOne K (.ref CN) (.ref CN) = some true)
    (e_CF_CN : PySem.W.exmOne K (.ref CF) (.ref CN) = some false)
    (e_CF_CF : PySem.W.exmOne K (.ref CF) (.ref CF) = some true) : mg "NoBase" = some (.ref CN) → mg "NoField" = some (.ref CF) → ClsAll K mg C CN CF :=
  fun gNoBase gNoField => ⟨m0, m1, m2, m3, m4, m5, I, J, BNoBase gNoBase, BNoField gNoField, ⟨⟨l1, l2, l3, l4⟩, l5, l6, l7, l8⟩, ⟨x_NoBase_1, x_NoBase_2, x_NoBase_3, x_NoBase_4⟩, ⟨x_NoField_1, x_NoField_2, x_NoField_3, x_NoField_4⟩, f_NoBase_base, f_NoField_base, f_NoField_field, e_CN_CN, e_CF_CN, e_CF_CF⟩
theorem front {P : Program} {w : World} {K : PySem.W.Frag} {h : Heap} {mg : Str → Option Value} {fa : Addr} (X : K.In h) (G : h.Ns mainGlobals mg) (hmg : mg "law" = some (.ref fa))
    (D_is_name : ∃ f fd, Df K mg "is_name" s_is_name f fd ["word"])
    (D_is_key : ∃ f fd, Df K mg "is_key" s_is_key f fd ["name", "table"])
    (D_is_table : ∃ f fd, Df K mg "is_table" s_is_table f fd ["table", "least", "most", "taken"])
    (D_is_choice : ∃ f fd, Df K mg "is_choice" s_is_choice f fd ["names", "table"])
    (D_is_fields : ∃ f fd, Df K mg "is_fields" s_is_fields f fd ["fields", "most", "bases"])
    (D_is_kind : ∃ f fd, Df K mg "is_kind" s_is_kind f fd ["worth", "faces", "bases"])
    (D_has_fields : ∃ f fd, Df K mg "has_fields" s_has_fields f fd ["holder", "fields"])
    (D_is_union : ∃ f fd, Df K mg "is_union" s_is_union f fd ["worth", "kinds"])
    (D_is_face : ∃ f fd, Df K mg "is_face" s_is_face f fd ["name", "fields", "kinds", "bases"])
    (D_check_names : ∃ f fd, Df K mg "check_names" s_check_names f fd ["kinds", "faces", "unions"])
    (D_check_schema : ∃ f fd, Df K mg "check_schema" s_check_schema f fd ["kinds", "faces", "unions", "root"])
    (D_Lbox : ∃ f fd, Df K mg "_law_box" s_Lbox f fd ["_law_script"])
    (D_Ldraw : ∃ f fd, Df K mg "_law_draw" s_Ldraw f fd ["_law_box_here", "_law_many"])
    (D_Lwords : ∃ f fd, Df K mg "_law_words" s_Lwords f fd ["_law_box_here", "_law_many"])
    (D_Lshape : ∃ f fd, Df K mg "_law_shape" s_Lshape f fd ["_law_box_here", "_law_bases_here", "_law_most"])
    (D_Lkind : ∃ f fd, Df K mg "_law_kind" s_Lkind f fd ["_law_box_here", "_law_faces", "_law_names", "_law_common", "_law_bases_here", "_law_most"])
    (D_Lschema : ∃ f fd, Df K mg "_law_schema" s_Lschema f fd ["_law_box_here", "_law_most", "_law_kinds"])
    (D_Lbases : ∃ f fd, Df K mg "_law_bases" s_Lbases f fd ["_law_schema_here"])
    (D_Lmade : ∃ f fd, Df K mg "_law_made" s_Lmade f fd ["_law_schema_here"])
    (D_Lsame : ∃ f fd, Df K mg "_law_same" s_Lsame f fd ["_law_one", "_law_other"])
    (D_Lstrange : ∃ f fd, Df K mg "_law_strange" s_Lstrange f fd ["_law_box_here"])
    (D_target_of : ∃ f fd, Df K mg "target_of" s_target_of f fd ["shape"])
    (D_is_sure : ∃ f fd, Df K mg "is_sure" s_is_sure f fd ["shape"])
    (D_Ltable : ∃ f fd, Df K mg "_law_table" s_Ltable f fd ["_law_schema_here", "_law_base"])
    (D_Ltarget : ∃ f fd, Df K mg "_law_target" s_Ltarget f fd ["_law_shape_here"])
    (D_Lasked : ∃ f fd, Df K mg "_law_asked" s_Lasked f fd ["_law_built", "_law_base", "_law_field", "_law_way"])
    (D_is_shape : ∃ f fd, DfS K mg f fd)
    (T : Nms mg) (Cs : Cst K mg)
    (aL : ∃ fa fd, Df K mg "law" s_law fa fd ["_law_script"] ∧ ∀ (s : Shared) (v : Value), BindsTo s fd ⟨[v], []⟩ [("_law_script", v)])
    (cls : ∃ C CN CF, mg "Schema" = some (.ref C) ∧ mg "NoBase" = some (.ref CN) ∧ mg "NoField" = some (.ref CF) ∧ ClsAll K mg C CN CF) :
    ∃ fd : FuncData, (∀ (s : Shared) (v : Value), BindsTo s fd ⟨[v], []⟩ [("_law_script", v)]) ∧ ∀ base : Heap, K.In base → base.Ns mainGlobals mg → L2.FnOk P w K mg base L2.CX0 40 fa fd ["_law_script"] (spLaw K) := by
  obtain ⟨fl, fdl, DL, bl⟩ := aL
  have e := hmg.symm.trans DL.g
  cases e
  obtain ⟨C, CN, CF, gS, gNoBase, gNoField, A⟩ := cls
  refine ⟨fdl, bl, fun base _ _ => ?_⟩
  exact (all_ok DL D_is_name D_is_key D_is_table D_is_choice D_is_fields D_is_kind D_has_fields D_is_union D_is_face D_check_names D_check_schema D_Lbox D_Ldraw D_Lwords D_Lshape D_Lkind D_Lschema D_Lbases D_Lmade D_Lsame D_Lstrange D_target_of D_is_sure D_Ltable D_Ltarget D_Lasked D_is_shape A.m0 A.m1 A.m2 A.m3 A.m4 A.m5 A.I A.J A.B_NoBase A.B_NoField T Cs A.L gS A.X_NoBase A.X_NoField A.f_NoBase_base A.f_NoField_base A.f_NoField_field A.e_CN_CN A.e_CF_CN A.e_CF_CF).mono (by decide)
end NW
open PySem PySem.W PyProof.Rows
set_option maxRecDepth 100000 in
set_option maxHeartbeats 0 in
theorem PySem.Challenge.cw_nestedwishes_k02_fields_holds : PySem.Challenge.rw_nestedwishes_k02_fields.Holds := by
  w_on; o_law; k_head; (case hw => w_witness2)
  k_fill
  refine L2.walk_of (l := PySem.Challenge.rw_nestedwishes_k02_fields) (n := 63) (k := 40) (x := "_law_script") (CX := fun _ => L2.CX0) (sp := fun w => NW.spLaw _) rfl (by decide) rfl ⟨rfl, by decide, by decide⟩ (fun w h Y => PySem.W.kIn_of Y) ?F (fun _ _ a ns hl _ hS => ⟨a, ns, rfl, hS, hl, fun _ => rfl⟩) (fun _ _ _ _ _ h => h)
  case F =>
    intro w mg fa h KX G hmg
    refine' NW.front KX G hmg ?D_is_name ?D_is_key ?D_is_table ?D_is_choice ?D_is_fields ?D_is_kind ?D_has_fields ?D_is_union ?D_is_face ?D_check_names ?D_check_schema ?D_Lbox ?D_Ldraw ?D_Lwords ?D_Lshape ?D_Lkind ?D_Lschema ?D_Lbases ?D_Lmade ?D_Lsame ?D_Lstrange ?D_target_of ?D_is_sure ?D_Ltable ?D_Ltarget ?D_Lasked ?D_is_shape ?T ?Cs ?aL ?cls
    (case D_is_name =>
      refine' NW.df_mk KX G ?a ?l ?c ?k (fun _ _ _ _ _ _ us hl => match us, hl with | [_], _ => rfl)
      (case a => k_is); (case l => k_is); (case c => k_is); (case k => k_is))
    (case D_is_key =>
      refine' NW.df_mk KX G ?a ?l ?c ?k (fun _ _ _ _ _ _ us hl => match us, hl with | [_, _], _ => rfl)
      (case a => k_is); (case l => k_is); (case c => k_is); (case k => k_is))
    (case D_is_table =>
      refine' NW.df_mk KX G ?a ?l ?c ?k (fun _ _ _ _ _ _ us hl => match us, hl with | [_, _, _, _], _ => rfl)
      (case a => k_is); (case l => k_is); (case c => k_is); (case k => k_is))
    (case D_is_choice =>
      refine' NW.df_mk KX G ?a ?l ?c ?k (fun _ _ _ _ _ _ us hl => match us, hl with | [_, _], _ => rfl)
      (case a => k_is); (case l => k_is); (case c => k_is); (case k => k_is))
    (case D_is_fields =>
      refine' NW.df_mk KX G ?a ?l ?c ?k (fun _ _ _ _ _ _ us hl => match us, hl with | [_, _, _], _ => rfl)
      (case a => k_is); (case l => k_is); (case c => k_is); (case k => k_is))
    (case D_is_kind =>
      refine' NW.df_mk KX G ?a ?l ?c ?k (fun _ _ _ _ _ _ us hl => match us, hl with | [_, _, _], _ => rfl)
      (case a => k_is); (case l => k_is); (case c => k_is); (case k => k_is))
    (case D_has_fields =>
      refine' NW.df_mk KX G ?a ?l ?c ?k (fun _ _ _ _ _ _ us hl => match us, hl with | [_, _], _ => rfl)
      (case a => k_is); (case l => k_is); (case c => k_is); (case k => k_is))
    (case D_is_union =>
      refine' NW.df_mk KX G ?a ?l ?c ?k (fun _ _ _ _ _ _ us hl => match us, hl with | [_, _], _ => rfl)
      (case a => k_is); (case l => k_is); (case c => k_is); (case k => k_is))
    (case D_is_face =>
      refine' NW.df_mk KX G ?a ?l ?c ?k (fun _ _ _ _ _ _ us hl => match us, hl with | [_, _, _, _], _ => rfl)
      (case a => k_is); (case l => k_is); (case c => k_is); (case k => k_is))
    (case D_check_names =>
      refine' NW.df_mk KX G ?a ?l ?c ?k (fun _ _ _ _ _ _ us hl => match us, hl with | [_, _, _], _ => rfl)
      (case a => k_is); (case l => k_is); (case c => k_is); (case k => k_is))
    (case D_check_schema =>
      refine' NW.df_mk KX G ?a ?l ?c ?k (fun _ _ _ _ _ _ us hl => match us, hl with | [_, _, _, _], _ => rfl)
      (case a => k_is); (case l => k_is); (case c => k_is); (case k => k_is))
    (case D_Lbox =>
      refine' NW.df_mk KX G ?a ?l ?c ?k (fun _ _ _ _ _ _ us hl => match us, hl with | [_], _ => rfl)
      (case a => k_is); (case l => k_is); (case c => k_is); (case k => k_is))
    (case D_Ldraw =>
      refine' NW.df_mk KX G ?a ?l ?c ?k (fun _ _ _ _ _ _ us hl => match us, hl with | [_, _], _ => rfl)
      (case a => k_is); (case l => k_is); (case c => k_is); (case k => k_is))
    (case D_Lwords =>
      refine' NW.df_mk KX G ?a ?l ?c ?k (fun _ _ _ _ _ _ us hl => match us, hl with | [_, _], _ => rfl)
      (case a => k_is); (case l => k_is); (case c => k_is); (case k => k_is))
    (case D_Lshape =>
      refine' NW.df_mk KX G ?a ?l ?c ?k (fun _ _ _ _ _ _ us hl => match us, hl with | [_, _, _], _ => rfl)
      (case a => k_is); (case l => k_is); (case c => k_is); (case k => k_is))
    (case D_Lkind =>
      refine' NW.df_mk KX G ?a ?l ?c ?k (fun _ _ _ _ _ _ us hl => match us, hl with | [_, _, _, _, _, _], _ => rfl)
      (case a => k_is); (case l => k_is); (case c => k_is); (case k => k_is))
    (case D_Lschema =>
      refine' NW.df_mk KX G ?a ?l ?c ?k (fun _ _ _ _ _ _ us hl => match us, hl with | [_, _, _], _ => rfl)
      (case a => k_is); (case l => k_is); (case c => k_is); (case k => k_is))
    (case D_Lbases =>
      refine' NW.df_mk KX G ?a ?l ?c ?k (fun _ _ _ _ _ _ us hl => match us, hl with | [_], _ => rfl)
      (case a => k_is); (case l => k_is); (case c => k_is); (case k => k_is))
    (case D_Lmade =>
      refine' NW.df_mk KX G ?a ?l ?c ?k (fun _ _ _ _ _ _ us hl => match us, hl with | [_], _ => rfl)
      (case a => k_is); (case l => k_is); (case c => k_is); (case k => k_is))
    (case D_Lsame =>
      refine' NW.df_mk KX G ?a ?l ?c ?k (fun _ _ _ _ _ _ us hl => match us, hl with | [_, _], _ => rfl)
      (case a => k_is); (case l => k_is); (case c => k_is); (case k => k_is))
    (case D_Lstrange =>
      refine' NW.df_mk KX G ?a ?l ?c ?k (fun _ _ _ _ _ _ us hl => match us, hl with | [_], _ => rfl)
      (case a => k_is); (case l => k_is); (case c => k_is); (case k => k_is))
    (case D_target_of =>
      refine' NW.df_mk KX G ?a ?l ?c ?k (fun _ _ _ _ _ _ us hl => match us, hl with | [_], _ => rfl)
      (case a => k_is); (case l => k_is); (case c => k_is); (case k => k_is))
    (case D_is_sure =>
      refine' NW.df_mk KX G ?a ?l ?c ?k (fun _ _ _ _ _ _ us hl => match us, hl with | [_], _ => rfl)
      (case a => k_is); (case l => k_is); (case c => k_is); (case k => k_is))
    (case D_Ltable =>
      refine' NW.df_mk KX G ?a ?l ?c ?k (fun _ _ _ _ _ _ us hl => match us, hl with | [_, _], _ => rfl)
      (case a => k_is); (case l => k_is); (case c => k_is); (case k => k_is))
    (case D_Ltarget =>
      refine' NW.df_mk KX G ?a ?l ?c ?k (fun _ _ _ _ _ _ us hl => match us, hl with | [_], _ => rfl)
      (case a => k_is); (case l => k_is); (case c => k_is); (case k => k_is))
    (case D_Lasked =>
      refine' NW.df_mk KX G ?a ?l ?c ?k (fun _ _ _ _ _ _ us hl => match us, hl with | [_, _, _, _], _ => rfl)
      (case a => k_is); (case l => k_is); (case c => k_is); (case k => k_is))
    (case D_is_shape =>
      refine' NW.dfs_mk KX G ?a ?l ?c ?k ?t
      (case a => k_is); (case l => k_is); (case c => k_is); (case k => k_is); (case t => k_is))
    (case T =>
      refine' ⟨PySem.W.mg_none_of KX G ?a0, PySem.W.mg_none_of KX G ?a1, PySem.W.mg_none_of KX G ?a2, PySem.W.mg_none_of KX G ?a3, PySem.W.mg_none_of KX G ?a4, PySem.W.mg_none_of KX G ?a5, PySem.W.mg_none_of KX G ?a6, PySem.W.mg_none_of KX G ?a7, PySem.W.mg_none_of KX G ?a8, PySem.W.mg_none_of KX G ?a9, PySem.W.mg_none_of KX G ?a10, PySem.W.mg_none_of KX G ?a11, PySem.W.mg_none_of KX G ?a12⟩
      (case a0 => k_is); (case a1 => k_is); (case a2 => k_is); (case a3 => k_is); (case a4 => k_is); (case a5 => k_is); (case a6 => k_is); (case a7 => k_is); (case a8 => k_is); (case a9 => k_is); (case a10 => k_is); (case a11 => k_is); (case a12 => k_is))
    (case Cs =>
      refine' NW.cst_mk KX G ?a0 ?b0 ?a1 ?b1 ?a2 ?l2 ?a3 ?l3 ?a4 ?b4 ?a5 ?b5 ?a6 ?b6 ?a7 ?b7 ?a8 ?b8 ?a9 ?b9
      (case a0 => k_is); (case a1 => k_is); (case a2 => k_is); (case l2 => k_is); (case a3 => k_is); (case l3 => k_is); (case a4 => k_is); (case a5 => k_is); (case a6 => k_is); (case a7 => k_is); (case a8 => k_is); (case a9 => k_is)
      (case b0 => exact ⟨_, by first | rfl | decide +kernel⟩); (case b1 => exact ⟨_, by first | rfl | decide +kernel⟩); (case b4 => exact ⟨_, by first | rfl | decide +kernel⟩); (case b5 => exact ⟨_, by first | rfl | decide +kernel⟩); (case b6 => exact ⟨_, by first | rfl | decide +kernel⟩); (case b7 => exact ⟨_, by first | rfl | decide +kernel⟩); (case b8 => exact ⟨_, by first | rfl | decide +kernel⟩); (case b9 => exact ⟨_, by first | rfl | decide +kernel⟩))
    (case aL =>
      refine' NW.law_mk KX G ?a ?l ?c ?k
      (case a => k_is); (case l => k_is); (case c => k_is); (case k => k_is))
    (case cls =>
      refine' NW.cls_mk KX G ?sSch ?sNoBase ?sNoField ?mAll
      (case sSch => k_is); (case sNoBase => k_is); (case sNoField => k_is)
      refine' NW.clsAll_mk ?m0 ?m1 ?m2 ?m3 ?m4 ?m5 ?I ?J ?BNoBase ?BNoField ?l1 ?l2 ?l3 ?l4 ?l5 ?l6 ?l7 ?l8 ?x_NoBase_1 ?x_NoBase_2 ?x_NoBase_3 ?x_NoBase_4 ?x_NoField_1 ?x_NoField_2 ?x_NoField_3 ?x_NoField_4 ?f_NoBase_base ?f_NoField_base ?f_NoField_field ?e_CN_CN ?e_CF_CN ?e_CF_CF
      (case m0 =>
        refine' NW.mt_mk ?a ?i ?l ?c ?k (fun _ _ _ _ _ _ us hl => match us, hl with | [_], _ => rfl)
        (case a => k_is); (case i => k_is); (case l => k_is); (case c => k_is); (case k => k_is))
      (case m1 =>
        refine' NW.mt_mk ?a ?i ?l ?c ?k (fun _ _ _ _ _ _ us hl => match us, hl with | [_, _], _ => rfl)
        (case a => k_is); (case i => k_is); (case l => k_is); (case c => k_is); (case k => k_is))
      (case m2 =>
        refine' NW.mt_mk ?a ?i ?l ?c ?k (fun _ _ _ _ _ _ us hl => match us, hl with | [_, _], _ => rfl)
        (case a => k_is); (case i => k_is); (case l => k_is); (case c => k_is); (case k => k_is))
      (case m3 =>
        refine' NW.mt_mk ?a ?i ?l ?c ?k (fun _ _ _ _ _ _ us hl => match us, hl with | [_, _, _], _ => rfl)
        (case a => k_is); (case i => k_is); (case l => k_is); (case c => k_is); (case k => k_is))
      (case m4 =>
        refine' NW.mt_mk ?a ?i ?l ?c ?k (fun _ _ _ _ _ _ us hl => match us, hl with | [_, _, _], _ => rfl)
        (case a => k_is); (case i => k_is); (case l => k_is); (case c => k_is); (case k => k_is))
      (case m5 =>
        refine' NW.mt_mk ?a ?i ?l ?c ?k (fun _ _ _ _ _ _ us hl => match us, hl with | [_, _, _], _ => rfl)
        (case a => k_is); (case i => k_is); (case l => k_is); (case c => k_is); (case k => k_is))
      (case I =>
        refine' NW.init_mk ?i2 ?l ?c ?k ?i1 ?i3 ?i4
        (case i2 => k_is); (case l => k_is); (case c => k_is); (case k => k_is); (case i1 => k_is); (case i3 => k_is); (case i4 => k_is))
      (case J =>
        refine' NW.cont_mk ?i1 ?l ?c ?k ?i2
        (case i1 => k_is); (case l => k_is); (case c => k_is); (case k => k_is); (case i2 => k_is))
      (case BNoBase =>
        intro gNB
        refine' NW.NoBase_mk ?i1 ?l ?c ?k ?o1 ?o2 ?o3 ?o4 ?o5 ?o6 ?i2 gNB ?no0
        (case i1 => k_is); (case l => k_is); (case c => k_is); (case k => k_is); (case o1 => k_is); (case o2 => decide +kernel); (case o3 => k_is); (case o4 => k_is); (case o5 => k_is); (case o6 => k_is); (case i2 => k_is); (case no0 => k_is))
      (case BNoField =>
        intro gNB
        refine' NW.NoField_mk ?i1 ?l ?c ?k ?o1 ?o2 ?o3 ?o4 ?o5 ?o6 ?i2 gNB ?no0 ?no1
        (case i1 => k_is); (case l => k_is); (case c => k_is); (case k => k_is); (case o1 => k_is); (case o2 => decide +kernel); (case o3 => k_is); (case o4 => k_is); (case o5 => k_is); (case o6 => k_is); (case i2 => k_is); (case no0 => k_is); (case no1 => k_is))
      (case l1 => k_is); (case l2 => k_is); (case l3 => k_is); (case l4 => k_is); (case l5 => k_is); (case l6 => k_is); (case l7 => k_is); (case l8 => k_is); (case x_NoBase_1 => k_is); (case x_NoBase_2 => k_is); (case x_NoBase_3 => k_is); (case x_NoBase_4 => k_is); (case x_NoField_1 => k_is); (case x_NoField_2 => k_is); (case x_NoField_3 => k_is); (case x_NoField_4 => k_is); (case f_NoBase_base => k_is); (case f_NoField_base => k_is); (case f_NoField_field => k_is)
      (case e_CN_CN => first | k_is | rfl); (case e_CF_CN => first | k_is | rfl); (case e_CF_CF => first | k_is | rfl))
