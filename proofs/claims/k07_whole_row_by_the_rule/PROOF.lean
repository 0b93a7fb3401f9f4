import PyProof.Rows.All
import Wide.All
import OpenK.AllK
import Wide.FinOn
import HandS.ForMost
import HandS.Wide
import HandS.IsInst
import HandS.SetFor
import HandS.More
import HandS.Codes
import HandS.ForExc
import HandS.Zip
import HandS.Style
import HandS.Walk
import HandS.Defaults
import HandS.CallSlots
import HandS.ListItems
import KE.KDictZip
import PySem.Challenge.RW_seatmarks_k07_whole_row_by_the_rule
set_option Elab.async false
set_option linter.all false
set_option maxRecDepth 100000
set_option maxHeartbeats 4000000
namespace Seat
open PySem L2
open C8 (Cal Met Mak pe_c pe_mk pe_mt pe_mt0 pe_gc pss_cut)

def top (i : Nat) : Stmt := PySem.Challenge.pw_seatmarks_k07_whole_row_by_the_rule.main.body.getD i (.Pass ⟨0, 0, 0, 0⟩)
abbrev s_check_within : Stmt := top 8
theorem sc_check_within : FnScope ["value", "least", "most"] ["value", "least", "most"] (defScope s_check_within) := ⟨rfl, rfl, rfl, by decide +kernel, rfl, by decide +kernel, by decide +kernel⟩
abbrev s_is_too_full : Stmt := top 12
theorem sc_is_too_full : FnScope ["level", "many"] ["level", "many"] (defScope s_is_too_full) := ⟨rfl, rfl, rfl, by decide +kernel, rfl, by decide +kernel, by decide +kernel⟩
abbrev s_stretch_at : Stmt := top 13
theorem sc_stretch_at : FnScope ["level", "mark", "size"] ["level", "mark"] (defScope s_stretch_at) := ⟨rfl, rfl, rfl, by decide +kernel, rfl, by decide +kernel, by decide +kernel⟩
abbrev s_spread : Stmt := top 14
theorem sc_spread : FnScope ["level", "start", "many", "size", "place"] ["level", "start", "many"] (defScope s_spread) := ⟨rfl, rfl, rfl, by decide +kernel, rfl, by decide +kernel, by decide +kernel⟩
abbrev s_power : Stmt := top 15
theorem sc_power : FnScope ["base", "times", "found", "_"] ["base", "times"] (defScope s_power) := ⟨rfl, rfl, rfl, by decide +kernel, rfl, by decide +kernel, by decide +kernel⟩
abbrev s_Row___init__ : Stmt := inClass (top 21) 0
theorem sc_Row___init__ : FnScope ["self", "wide"] ["self", "wide"] (defScope s_Row___init__) := ⟨rfl, rfl, rfl, by decide +kernel, rfl, by decide +kernel, by decide +kernel⟩
abbrev s_Row_put : Stmt := inClass (top 21) 1
theorem sc_Row_put : FnScope ["self", "one", "place", "number", "order", "ahead", "behind", "stretch", "marked", "thing", "mark", "changed"] ["self", "one"] (defScope s_Row_put) := ⟨rfl, rfl, rfl, by decide +kernel, rfl, by decide +kernel, by decide +kernel⟩
abbrev s_Row_take : Stmt := inClass (top 21) 2
theorem sc_Row_take : FnScope ["self", "one"] ["self", "one"] (defScope s_Row_take) := ⟨rfl, rfl, rfl, by decide +kernel, rfl, by decide +kernel, by decide +kernel⟩
abbrev s_Row_things : Stmt := inClass (top 21) 3
theorem sc_Row_things : FnScope ["self"] ["self"] (defScope s_Row_things) := ⟨rfl, rfl, rfl, by decide +kernel, rfl, by decide +kernel, by decide +kernel⟩
abbrev s_Row_mark : Stmt := inClass (top 21) 4
theorem sc_Row_mark : FnScope ["self", "one"] ["self", "one"] (defScope s_Row_mark) := ⟨rfl, rfl, rfl, by decide +kernel, rfl, by decide +kernel, by decide +kernel⟩
abbrev s_Row_is_ahead : Stmt := inClass (top 21) 5
theorem sc_Row_is_ahead : FnScope ["self", "one", "other"] ["self", "one", "other"] (defScope s_Row_is_ahead) := ⟨rfl, rfl, rfl, by decide +kernel, rfl, by decide +kernel, by decide +kernel⟩
abbrev s_Row_purse : Stmt := inClass (top 21) 6
theorem sc_Row_purse : FnScope ["self"] ["self"] (defScope s_Row_purse) := ⟨rfl, rfl, rfl, by decide +kernel, rfl, by decide +kernel, by decide +kernel⟩
abbrev s_Row__check_thing : Stmt := inClass (top 21) 7
theorem sc_Row__check_thing : FnScope ["self", "one"] ["self", "one"] (defScope s_Row__check_thing) := ⟨rfl, rfl, rfl, by decide +kernel, rfl, by decide +kernel, by decide +kernel⟩
abbrev s_Row__place_behind : Stmt := inClass (top 21) 8
theorem sc_Row__place_behind : FnScope ["self", "one"] ["self", "one"] (defScope s_Row__place_behind) := ⟨rfl, rfl, rfl, by decide +kernel, rfl, by decide +kernel, by decide +kernel⟩
abbrev s_Row__marks_around : Stmt := inClass (top 21) 9
theorem sc_Row__marks_around : FnScope ["self", "place", "ahead", "behind"] ["self", "place"] (defScope s_Row__marks_around) := ⟨rfl, rfl, rfl, by decide +kernel, rfl, by decide +kernel, by decide +kernel⟩
abbrev s_Row__stretch_to_spread : Stmt := inClass (top 21) 10
theorem sc_Row__stretch_to_spread : FnScope ["self", "mark", "level", "first", "thing", "many"] ["self", "mark"] (defScope s_Row__stretch_to_spread) := ⟨rfl, rfl, rfl, by decide +kernel, rfl, by decide +kernel, by decide +kernel⟩
abbrev s_Row__spread_marks : Stmt := inClass (top 21) 11
theorem sc_Row__spread_marks : FnScope ["self", "stretch", "order", "number", "level", "first", "thing", "inside"] ["self", "stretch", "order", "number"] (defScope s_Row__spread_marks) := ⟨rfl, rfl, rfl, by decide +kernel, rfl, by decide +kernel, by decide +kernel⟩
abbrev s_Row__lies_in : Stmt := inClass (top 21) 12
theorem sc_Row__lies_in : FnScope ["self", "thing", "level", "first", "mark"] ["self", "thing", "level", "first"] (defScope s_Row__lies_in) := ⟨rfl, rfl, rfl, by decide +kernel, rfl, by decide +kernel, by decide +kernel⟩
abbrev s__law_next : Stmt := top 23
theorem sc__law_next : FnScope ["_law_state", "_law_k", "_law_cells", "_law_base"] ["_law_state"] (defScope s__law_next) := ⟨rfl, rfl, rfl, by decide +kernel, rfl, by decide +kernel, by decide +kernel⟩
abbrev s__law_too_many : Stmt := top 24
theorem sc__law_too_many : FnScope ["_law_level", "_law_many", "_law_room", "_law_turn"] ["_law_level", "_law_many"] (defScope s__law_too_many) := ⟨rfl, rfl, rfl, by decide +kernel, rfl, by decide +kernel, by decide +kernel⟩
abbrev s__law_begun : Stmt := top 25
theorem sc__law_begun : FnScope ["_law_wide"] ["_law_wide"] (defScope s__law_begun) := ⟨rfl, rfl, rfl, by decide +kernel, rfl, by decide +kernel, by decide +kernel⟩
abbrev s__law_put : Stmt := top 26
theorem sc__law_put : FnScope ["_law_m", "_law_one", "_law_line", "_law_marks", "_law_at", "_law_low", "_law_high", "_law_number", "_law_stretch", "_law_fresh", "_law_level", "_law_size", "_law_start", "_law_thing", "_law_some", "_law_place_here", "_law_changed"] ["_law_m", "_law_one"] (defScope s__law_put) := ⟨rfl, rfl, rfl, by decide +kernel, rfl, by decide +kernel, by decide +kernel⟩
abbrev s__law_taken : Stmt := top 27
theorem sc__law_taken : FnScope ["_law_m", "_law_one"] ["_law_m", "_law_one"] (defScope s__law_taken) := ⟨rfl, rfl, rfl, by decide +kernel, rfl, by decide +kernel, by decide +kernel⟩
abbrev s__law_place : Stmt := top 28
theorem sc__law_place : FnScope ["_law_state", "_law_m", "_law_n", "_law_line"] ["_law_state", "_law_m"] (defScope s__law_place) := ⟨rfl, rfl, rfl, by decide +kernel, rfl, by decide +kernel, by decide +kernel⟩
abbrev s__law_tried : Stmt := top 29
theorem sc__law_tried : FnScope ["_law_row", "_law_one", "_law_found"] ["_law_row", "_law_one"] (defScope s__law_tried) := ⟨rfl, rfl, rfl, by decide +kernel, rfl, by decide +kernel, by decide +kernel⟩
abbrev s__law_alike : Stmt := top 30
theorem sc__law_alike : FnScope ["_law_row", "_law_m", "_law_one"] ["_law_row", "_law_m"] (defScope s__law_alike) := ⟨rfl, rfl, rfl, by decide +kernel, rfl, by decide +kernel, by decide +kernel⟩
abbrev s_law : Stmt := top 31
theorem sc_law : FnScope ["_law_script", "_law_state", "_law_n", "_law_wide", "_law_row", "_law_m", "_law_cell", "_law_line", "_law_one", "_law_turn"] ["_law_script"] (defScope s_law) := ⟨rfl, rfl, rfl, by decide +kernel, rfl, by decide +kernel, by decide +kernel⟩
/-! ### how a def of the top, a method, a constant stand -/
structure Df (K : PySem.W.Frag) (mg : Str → Option Value) (x : Str) (st : Stmt) (ps : List Str) : Prop where
  ex : ∃ (f : Addr) (fd : FuncData), Fun K x x st f fd ∧ mg x = some (.ref f) ∧ Binds K fd ps []
structure Md (K : PySem.W.Frag) (C : Addr) (m qual : Str) (st : Stmt) (ps : List Str) (dvs : List V) : Prop where
  ex : ∃ (f : Addr) (fd : FuncData) (ds : List Value), Fun K m qual st f fd ∧ Meth K C m f ∧ Binds K fd ps ds ∧ Vals dvs ds
def Kn (mg : Str → Option Value) (x : Str) (v : V) : Prop := ∃ u, mg x = some u ∧ RelV v u
/-! ### steps of a reading -/
theorem iteTd {c A B : Prop} [Decidable c] (hc : c) (h : A) : if decide c = true then A else B := by
  rw [decide_eq_true hc]; exact iteT h
theorem iteFd {c A B : Prop} [Decidable c] (hc : ¬ c) (h : B) : if decide c = true then A else B := by
  rw [decide_eq_false hc]; exact iteF h
theorem iteNT {c A B : Prop} [Decidable c] (hc : ¬ c) (h : A) : if (!decide c) = true then A else B := by
  rw [decide_eq_false hc]; exact iteT h
theorem ite2d {c A B : Prop} [Decidable c] (h1 : c → A) (h2 : ¬ c → B) : if decide c = true then A else B := by
  by_cases h : c
  · exact iteTd h (h1 h)
  · exact iteFd h (h2 h)
theorem iteOf {b : Bool} {A B : Prop} (h1 : b = true → A) (h2 : b = false → B) : if b = true then A else B := by
  cases b with
  | true => exact iteT (h1 rfl)
  | false => exact iteF (h2 rfl)
theorem iteEqT {b : Bool} {A B : Prop} (hb : b = true) (h : A) : if b = true then A else B := by rw [hb]; exact iteT h
theorem iteEqF {b : Bool} {A B : Prop} (hb : b = false) (h : B) : if b = true then A else B := by rw [hb]; exact iteF h
/-- a new object leaves all as it was -/
theorem same_new {H : Hp} {p : Addr} {o : HO} (h : H p = none) : Same H (upd H p o) := fun b x e => by
  rw [upd_ne (ne_of_none e h)]
  exact e
theorem small {n : Nat} (h : n ≤ 100000) : n ≤ sizeLine := Nat.le_trans h (by decide)
theorem smallL {n : Nat} (h : n ≤ 100000) : n < sizeLine := Nat.lt_of_le_of_lt h (by decide)
/-- a class with its __init__ -/
structure MkI (K : PySem.W.Frag) (C : Addr) (qual : Str) (st : Stmt) (ps : List Str) : Prop where
  ex : ∃ (f : Addr) (fd : FuncData), Mk K C f ∧ Fun K "__init__" qual st f fd ∧ Binds K fd ps []
/-- a method with one default, None, for its second parameter -/
structure MdD (K : PySem.W.Frag) (C : Addr) (m qual : Str) (st : Stmt) : Prop where
  ex : ∃ (f : Addr) (fd : FuncData), FunD K m qual (defArgs st) (defBody st) (defScope st) [.non] [] f fd ∧ Meth K C m f ∧ Binds K fd ["self", "one"] [] ∧ ∃ ds, Vals [.non] ds ∧ Binds K fd ["self", "one"] ds
/-- an error class of the program over ValueError -/
structure ExcC (K : PySem.W.Frag) (mg : Str → Option Value) (x : Str) (C : Addr) : Prop where
  g : mg x = some (.ref C)
  ex : PySem.W.excIn K C [.type "ValueError", .type "Exception", .type "BaseException", .type "object"] "ValueError.__new__" = true
  kp : PySem.W.keepIn K (.ref C) = true
  sb : PySem.W.subIn K (.ref C) (.type "BaseException") = some true
  ty : PySem.W.typeIn K (.ref C) = some (.type "type")
  ic : PySem.W.isClsIn K C = true
  ss : PySem.W.subIn K (.ref C) (.ref C) = some true
theorem exm_sub {K : PySem.W.Frag} {C S : Addr} {b : Bool} (h1 : PySem.W.subIn K (.ref S) (.type "BaseException") = some true) (h2 : PySem.W.isClsIn K S = true) (h3 : PySem.W.typeIn K (.ref S) = some (.type "type")) (h4 : PySem.W.subIn K (.ref C) (.ref S) = some b) : PySem.W.exmOne K (.ref C) (.ref S) = some b := by
  have e1 : (PySem.W.subIn K (.ref S) (.type "BaseException") == some true) = true := by rw [h1]; rfl
  have e2 : ((PySem.W.clsIn K S).isSome && PySem.W.typeIn K (.ref S) == some (.type "type")) = true := by
    have h5 : (PySem.W.clsIn K S).isSome = true := h2
    rw [h5, h3]; rfl
  show (if _ then (if _ then _ else none) else none) = some b
  rw [if_pos e1, if_pos e2]
  exact h4
def spreadL (l : Nat) (s : Int) (m : Nat) : List Int := (List.range m).map fun (i : Nat) => s + 2 ^ l * (i : Int) / (m : Int)
theorem two_pow_pos (l : Nat) : (0 : Int) < 2 ^ l := Int.pow_pos (by decide)
theorem two_pow_lt {l : Nat} (h : l ≤ 60) : ((2 : Int) ^ l).natAbs < 2 ^ 61 := by
  rw [Int.natAbs_pow]
  exact Nat.pow_lt_pow_right (by decide) (by omega)
theorem two_pow_le {l : Nat} (h : l ≤ 60) : ((2 : Int) ^ l) ≤ 2 ^ 60 := by
  have := two_pow_lt h
  have h2 : (2 : Nat) ^ l ≤ 2 ^ 60 := Nat.pow_le_pow_right (by decide) h
  have h3 : ((2 : Int) ^ l) = ((2 ^ l : Nat) : Int) := by push_cast; rfl
  rw [h3]
  exact_mod_cast h2
theorem nil_of {σ : L2.St} {H : Hp} {Q : List V → Hp → Prop} (h : Q [] H) : tNil σ H Q := h
theorem mdd_of {K : PySem.W.Frag} {C f Tq : Addr} {m qual : Str} {st : Stmt} {od an odq : Option Addr} {sl slq : Array (Option Value)} {oc kV dc pm cd ct otq : Value} {ntq : Nat} (a : PySem.W.findIn K (.ref C) m = some (some (.ref f))) (i : PySem.W.isFn K (.ref f) = true)
    (l : K.lookup f = some ⟨oc, od, .func (PySem.W.fnOf m qual (defArgs st) (defBody st) (defScope st) (.ref Tq) kV dc pm an cd ct), sl⟩) (c : PySem.W.codeIn K cd qual = true) (k : PySem.W.keepIn K (.ref f) = true) (lT : K.lookup Tq = some ⟨otq, odq, .seq #[.none] ntq, slq⟩)
    (h1 : ∀ (T : Addr) (kV doc pm : Value) (an : Option Addr) (cdv ct : Value) (us its : List Value), us.length = 1 → its.length = 1 → ∃ k, bindArgs (PySem.W.fnOf m qual (defArgs st) (defBody st) (defScope st) (.ref T) kV doc pm an cdv ct) ⟨us, []⟩ = seqItems? (.ref T) >>= k ∧ k (some its.toArray) = pure ((["self", "one"] : List Str).zip (us ++ its.drop 0)))
    (h2 : ∀ (T : Addr) (kV doc pm : Value) (an : Option Addr) (cdv ct : Value) (us its : List Value), us.length = 2 → its.length = 1 → ∃ k, bindArgs (PySem.W.fnOf m qual (defArgs st) (defBody st) (defScope st) (.ref T) kV doc pm an cdv ct) ⟨us, []⟩ = seqItems? (.ref T) >>= k ∧ k (some its.toArray) = pure ((["self", "one"] : List Str).zip (us ++ its.drop 1))) : MdD K C m qual st := by
  have F : FunD K m qual (defArgs st) (defBody st) (defScope st) [.non] [] f (PySem.W.fnOf m qual (defArgs st) (defBody st) (defScope st) (.ref Tq) kV dc pm an cd ct) :=
    ⟨⟨oc, od, _, kV, dc, pm, an, cd, ct, sl, rfl, l, c, .inr ⟨by simp, Tq, _, [.none], _, rfl, lT, rfl, .cons rfl .nil⟩, .inl rfl⟩, k⟩
  obtain ⟨d1, v1, b1⟩ := F.binds1 (ps := ["self", "one"]) 2 1 (by simp) rfl h2
  obtain ⟨d0, v0, b0⟩ := F.binds1 (ps := ["self", "one"]) 1 0 (by simp) rfl h1
  cases v1
  exact ⟨f, _, F, ⟨a, i, k⟩, b1, d0, v0, b0⟩

/-! ### rules of our own -/
section
variable {X : Cx}
/-- list + list, each tracked, locked or written -/
def rCatS (K : PySem.W.Frag) : R2 := fun x y H Q => ∃ l b xs zs, x = .ref l ∧ y = .ref b ∧ SqL K H l xs ∧ SqL K H b zs ∧ xs.length + zs.length ≤ sizeLine ∧ ∀ p, H p = none → Q (.ref p) (upd H p (.lst (xs ++ zs)))
theorem op_catS : OpR X (binaryOp .Add) (rCatS X.K) := by
  intro pins s σ H x y v u Q I rx ry h
  obtain ⟨l, b, xs, zs, rfl, rfl, hH, hB, hz, q⟩ := h
  cases rx
  cases ry
  obtain ⟨its, r, pl, z⟩ := I.list hH
  obtain ⟨its2, r2, pl2, z2⟩ := I.list hB
  obtain ⟨⟨cls, dd, data, sl⟩, ho, hc, n, hd⟩ := id pl.isList
  obtain ⟨⟨cls2, dd2, data2, sl2⟩, ho2, hc2, n2, hd2⟩ := id pl2.isList
  simp only at hc hd hc2 hd2
  subst hc hd hc2 hd2
  have e : its.toArray ++ its2.toArray = (its ++ its2).toArray := by simp
  have l1 := r.length
  have l2 := r2.length
  refine concat_meets ⟨_, ho, rfl⟩ ⟨_, ho2, rfl⟩ noFill_list_add seq_list_add PySem.F.slot_list_add PySem.F.entry_list_add (PySem.F.args_list_add_2 _ _) (PyProof.Rows.list_addW l b its.toArray its2.toArray n n2 dd dd2 sl sl2 (by rw [List.size_toArray, List.size_toArray]; omega)) ⟨ho, ho2, ?_⟩
  rw [e]
  exact ⟨.ref _, _, I.lnew (t' := s.toks) (r.append r2) (by rw [List.length_append]; omega), rfl, q _ I.fresh⟩
end
theorem cut_to (xs : List V) (k : Nat) : cutV xs none (some (k : Int)) = xs.take k := by
  unfold cutV
  rw [HT.sIx_none, HT.sIx_nat, Nat.sub_zero, List.drop_zero]
  by_cases h : k ≤ xs.length
  · rw [Nat.min_eq_left h]
  · rw [Nat.min_eq_right (by omega), List.take_of_length_le (Nat.le_refl _), List.take_of_length_le (by omega)]
theorem cut_from (xs : List V) (k : Nat) : cutV xs (some (k : Int)) none = xs.drop k := by
  unfold cutV
  rw [HT.sIx_none, HT.sIx_nat]
  by_cases h : k ≤ xs.length
  · rw [Nat.min_eq_left h, List.take_of_length_le (by rw [List.length_drop]; omega)]
  · rw [Nat.min_eq_right (by omega), List.drop_of_length_le (Nat.le_refl _), List.drop_of_length_le (by omega), List.take_nil]
section
variable {X : Cx} {st : Stmt} {t : TS}
theorem ps_nox (h : PS X.nox st t) : PS X st t := ⟨fun pins s σ H D I hw => wpAny_mono (h.run pins s σ H D (I.wish _) hw) (fun _ _ q => q.unwish) fun _ _ z => False.elim z⟩
end
/-! ### methods that may raise -/
structure MetX (P : Program) (w : World) (K : PySem.W.Frag) (mg : Str → Option Value) (base : Heap) (CX : CXT) (k : Nat) (C : Addr) (m : Str) (sp : Sp) (dvs : List V) : Prop where
  ex : ∃ (f : Addr) (fd : FuncData) (ps : List Str) (ds : List Value), Cls K C ∧ Meth K C m f ∧ FnOk P w K mg base CX k f fd ps sp ∧ Binds K fd ps ds ∧ Vals dvs ds
section
variable {X : Cx} {CX : CXT} {k j : Nat} {C : Addr} {m : Str} {sp : Sp} {dvs : List V} {pos apos : Pos} {e o : Expr} {es : List Expr} {ta : TE} {t : TA}
theorem pe_mtX {E : XK} {pl : Sem Bool} (c : MetX X.prog X.w X.K X.mg X.base CX k C m sp dvs) (hr : Room j X.A) (hk : k ≤ j) (hx : Passes CX X E) (he : PE X o ta) (ha : PA X (e :: es) t)
    (hst : starEach (e :: es) X.env = (false, eval e X.env) :: starEach es X.env := by rfl) (hpl : (backTo pos (starEach es X.env)).any (·.1) = false := by rfl)
    (ht : eval (.Call (.Attribute o m apos) (e :: es) [] pos) X.env = (do
      let ov ← eval o X.env
      standAt apos.atName
      let (f, first) ← holding [ov] (getMethod ov m pl)
      callWith pos f first (backTo pos (starEach (e :: es) X.env)) (backToKw pos (keywordEach [] X.env))) := by rfl) :
    PE X (.Call (.Attribute o m apos) (e :: es) [] pos) (tMeth C m sp dvs E ta t) := by
  obtain ⟨f, fd, ps, ds, hc, hm, F, b, d⟩ := c.ex
  exact pe_meth (pl := pl) he hc hm F (hr.mono hk) b d hx ha hst hpl ht
theorem pe_mtX0 {E : XK} {pl : Sem Bool} (c : MetX X.prog X.w X.K X.mg X.base CX k C m sp dvs) (hr : Room j X.A) (hk : k ≤ j) (hx : Passes CX X E) (he : PE X o ta)
    (ht : eval (.Call (.Attribute o m apos) [] [] pos) X.env = (do
      let ov ← eval o X.env
      standAt apos.atName
      let (f, first) ← holding [ov] (getMethod ov m pl)
      callWith pos f first (backTo pos (starEach [] X.env)) (backToKw pos (keywordEach [] X.env))) := by rfl) :
    PE X (.Call (.Attribute o m apos) [] [] pos) (tMeth C m sp dvs E ta tNil) := by
  obtain ⟨f, fd, ps, ds, hc, hm, F, b, d⟩ := c.ex
  exact pe_meth0 (pl := pl) he hc hm F (hr.mono hk) b d hx ht
/-- within a try: what is raised is wished for at the caller's slots -/
def tMethS (C : Addr) (m : Str) (sp : Sp) (dvs : List V) (E : St → XK) (ta : TE) (t : TA) : TE := fun σ H Q => tMeth C m sp dvs (E σ) ta t σ H Q
theorem pe_mtS {E : St → XK} {pl : Sem Bool} (c : MetX X.prog X.w X.K X.mg X.base CX k C m sp dvs) (hr : Room j X.A) (hk : k ≤ j) (hx : ∀ σ, PassesAt CX X σ (E σ)) (he : PE X o ta) (ha : PA X (e :: es) t)
    (hst : starEach (e :: es) X.env = (false, eval e X.env) :: starEach es X.env := by rfl) (hpl : (backTo pos (starEach es X.env)).any (·.1) = false := by rfl)
    (ht : eval (.Call (.Attribute o m apos) (e :: es) [] pos) X.env = (do
      let ov ← eval o X.env
      standAt apos.atName
      let (f, first) ← holding [ov] (getMethod ov m pl)
      callWith pos f first (backTo pos (starEach (e :: es) X.env)) (backToKw pos (keywordEach [] X.env))) := by rfl) :
    PE X (.Call (.Attribute o m apos) (e :: es) [] pos) (tMethS C m sp dvs E ta t) := by
  obtain ⟨f, fd, ps, ds, hc, hm, F, b, d⟩ := c.ex
  refine ⟨fun pins s σ H Q I h => ?_⟩
  refine PySem.W.methodCall_KW (pl := pl) (thn (he.run pins s σ H _ I h) fun u s1 ⟨x, H1, I1, rx, a, dx, fs, ex, ea, l, q⟩ => ?_) ht
  subst ex
  obtain rfl : u = Value.ref a := rx
  refine getmeth_ok I1 ea hc hm l ?_
  refine PySem.W.callWith_K (first := [.ref a]) (h₀ := X.base) I.ok.mod.kin hm.kp (thn (ha.run pos pins s1 σ H1 _ I1 q) fun us s2 ⟨vs, H2, I2, r, q2⟩ => ⟨I2.kIn, ?_⟩) hst hpl
  exact run_fnSD (us := .ref a :: us) (vs := .ref a :: vs) F (hr.mono hk) b d (hx σ) I2 (.cons rfl r) q2
end

/-! ### list(zip(a, b)) of two lists of one length, the first of ints: a new list of new pairs -/
section
open PySem.W PyProof.Rows
variable {prog : Program} {w : World} {A : Around} {E : Value → Shared → Prop} {s : Shared} {xs ys : Array Value} {z TI TO i1 i2 l1 l2 S : Addr}
/-- a zip in the midst of being drawn into the list at S -/
def ZMid (xs ys : Array Value) (z TI TO i1 i2 l1 l2 S : Addr) (i : Nat) (h : Heap) : Prop :=
  IsPair h TI (.ref i1) (.ref i2) ∧ h.IsListIter i1 l1 i ∧ h.IsListIter i2 l2 i ∧ h.IsList l1 xs ∧ h.IsList l2 ys ∧
    ((IsZip h z TI TO .none ∧ ∃ a b, IsPair h TO a b) ∨ ∃ T f oT, IsZipHeld h z TI TO T f ∧ h.get? T = some oT ∧ T ≠ z ∧ T ≠ i1 ∧ T ≠ i2 ∧ T ≠ S)
structure ZOff (z TI TO i1 i2 l1 l2 S : Addr) : Prop where
  oz : z ≠ S
  oTI : TI ≠ S
  oTO : TO ≠ S
  o1 : i1 ≠ S
  o2 : i2 ≠ S
  ol1 : l1 ≠ S
  ol2 : l2 ≠ S
theorem ZMid.stay {i : Nat} {h h' : Heap} (m : ZMid xs ys z TI TO i1 i2 l1 l2 S i h) (O : ZOff z TI TO i1 i2 l1 l2 S) (k : ∀ b o, b ≠ S → h.get? b = some o → h'.get? b = some o) : ZMid xs ys z TI TO i1 i2 l1 l2 S i h' := by
  obtain ⟨m1, m2, m3, m4, m5, m6⟩ := m
  refine ⟨k _ _ O.oTI m1, m2.at fun o q => k _ o O.o1 q, m3.at fun o q => k _ o O.o2 q, m4.at fun o q => k _ o O.ol1 q, m5.at fun o q => k _ o O.ol2 q, ?_⟩
  rcases m6 with ⟨n1, a, b, n2⟩ | ⟨T, f, oT, n1, n2, r⟩
  · exact .inl ⟨k _ _ O.oz n1, a, b, k _ _ O.oTO n2⟩
  · exact .inr ⟨T, f, oT, k _ _ O.oz n1, k _ _ r.2.2.2 n2, r⟩
theorem ZMid.next {i : Nat} {x y : Value} {Q : Option Value → Shared → Prop} (m : ZMid xs ys z TI TO i1 i2 l1 l2 S i s.heap) (D : ZipApart z TI TO i1 i2 l1 l2) (hS : S < s.heap.objs.size) (hx : xs[i]? = some x) (hy : ys[i]? = some y)
    (q : ∀ h', ZMid xs ys z TI TO i1 i2 l1 l2 S (i + 1) h' → IsPair h' s.heap.objs.size x y → h'.objs.size = s.heap.objs.size + 1 →
      (∀ b o, b ≠ z → b ≠ TO → b ≠ i1 → b ≠ i2 → s.heap.get? b = some o → h'.get? b = some o) → Q (some (.ref s.heap.objs.size)) { s with heap := h' }) :
    wpAny (model prog w) A (pyNext (.ref z)) Q E s := by
  obtain ⟨m1, m2, m3, m4, m5, m6⟩ := m
  have up : ∀ {c o}, s.heap.get? c = some o → s.heap.objs.size ≠ c := fun q => Nat.ne_of_gt (Heap.lt_size q)
  have u1 : s.heap.objs.size ≠ i1 := let ⟨_, q, _⟩ := m2; up q
  have u2 : s.heap.objs.size ≠ i2 := let ⟨_, q, _⟩ := m3; up q
  rcases m6 with ⟨n1, a, b, n2⟩ | ⟨T, f, oT, n1, n2, r1, r2, r3, r4⟩
  · refine wpAny_pyNext_zip_item D n1 m1 n2 m2 m3 m4 m5 hx hy fun h' a1 a2 a3 a4 a5 a6 hk => ?_
    exact q h' ⟨hk _ _ D.TIz D.TITO D.TIi1 D.TIi2 m1, a3, a4, m4.at fun o q => hk _ o D.l1z D.l1TO D.l1i1 D.l1i2 q, m5.at fun o q => hk _ o D.l2z D.l2TO D.l2i1 D.l2i2 q,
      .inr ⟨s.heap.objs.size, false, _, a1, a5, up n1, u1, u2, Nat.ne_of_gt hS⟩⟩ a5 a6 hk
  · refine wpAny_pyNext_zip_item_held D n1 n2 m1 m2 m3 m4 m5 hx hy fun h' a1 a3 a4 a5 a6 hk => ?_
    exact q h' ⟨hk _ _ D.TIz D.TIi1 D.TIi2 m1, a3, a4, m4.at fun o q => hk _ o D.l1z D.l1i1 D.l1i2 q, m5.at fun o q => hk _ o D.l2z D.l2i1 D.l2i2 q,
      .inr ⟨T, true, oT, a1, hk _ _ r1 r2 r3 n2, r1, r2, r3, r4⟩⟩ a5 a6 fun b o q1 _ q3 q4 => hk b o q1 q3 q4
theorem ZMid.last {i : Nat} {Q : Option Value → Shared → Prop} (m : ZMid xs ys z TI TO i1 i2 l1 l2 S i s.heap) (D : ZipApart z TI TO i1 i2 l1 l2) (hh : A.handled = none) (hx : xs[i]? = none)
    (q : ∀ h', (∀ b o, b ≠ z → b ≠ TO → b ≠ i1 → b ≠ i2 → s.heap.get? b = some o → h'.get? b = some o) → Q none { s with heap := h' }) : wpAny (model prog w) A (pyNext (.ref z)) Q E s := by
  obtain ⟨m1, m2, m3, m4, m5, m6⟩ := m
  rcases m6 with ⟨n1, a, b, n2⟩ | ⟨T, f, oT, n1, n2, r⟩
  · exact wpAny_pyNext_zip_end hh D n1 m1 n2 m2 m3 m4 m5 (.inl hx) fun h' hk => q h' hk
  · exact wpAny_pyNext_zip_end_held hh D n1 n2 m1 m2 m3 m4 m5 (.inl hx) fun h' hk => q h' fun b o q1 _ q3 q4 => hk b o q1 q3 q4
abbrev LObj (acc : Array Value) (c : Nat) : Obj := { cls := .type "list", dict := none, data := .seq acc c, slots := #[] }
abbrev Zip5 (z TI TO i1 i2 b : Addr) : Prop := b ≠ z ∧ b ≠ TO ∧ b ≠ i1 ∧ b ≠ i2
section
variable {knd : KeyKind prog w Key} {kvs : List (Key × Value)} {R : Result → Shared → Prop} {lo : Addr} {h₁ : Heap}
/-- what is drawn so far -/
structure ZSo (knd : KeyKind prog w Key) (kvs : List (Key × Value)) (xs ys : Array Value) (z TI TO i1 i2 l1 l2 S lo : Addr) (h₁ : Heap) (i : Nat) (h : Heap) (c : Nat) (as : List Addr) : Prop where
  mid : ZMid xs ys z TI TO i1 i2 l1 l2 S i h
  old : ∀ b o, b < lo → h₁.get? b = some o → h.get? b = some o
  lst : h.get? S = some (LObj (as.map Value.ref).toArray c)
  len : as.length = i
  got : KdxG knd kvs S h as
  big : S < h.objs.size
theorem low {b lo z : Addr} (h : b < lo) (l : lo ≤ z) : b ≠ z := Nat.ne_of_lt (Nat.lt_of_lt_of_le h l)
theorem high {b S z : Addr} (l : z < S) (h : S < b) : b ≠ z := Nat.ne_of_gt (Nat.lt_trans l h)
theorem push_obj (as : List Addr) (a : Addr) (c : Nat) : ∃ c', Obj.mapSeq (·.push (Value.ref a)) (LObj (as.map Value.ref).toArray c) = LObj ((as ++ [a]).map Value.ref).toArray c' := by
  have e : (as.map Value.ref).toArray.push (Value.ref a) = ((as ++ [a]).map Value.ref).toArray := by simp
  refine ⟨if ((as.map Value.ref).toArray.push (Value.ref a)).size == (as.map Value.ref).toArray.size then c else c + 1, ?_⟩
  rw [← e]
  rfl
theorem zso_step {i c : Nat} {h h' : Heap} {as : List Addr} {k : Key} {u x : Value} (W : ZSo knd kvs xs ys z TI TO i1 i2 l1 l2 S lo h₁ i h c as) (O : ZOff z TI TO i1 i2 l1 l2 S)
    (L : lo ≤ z ∧ lo ≤ TO ∧ lo ≤ i1 ∧ lo ≤ i2 ∧ lo ≤ S) (L2 : z < S ∧ TO < S ∧ i1 < S ∧ i2 < S) (hx : kvs[i]? = some (k, x)) (hu : knd.is k u = true)
    (mid : ZMid xs ys z TI TO i1 i2 l1 l2 S (i + 1) h') (pr : IsPair h' h.objs.size u x) (hz : h'.objs.size = h.objs.size + 1)
    (hk : ∀ b o, b ≠ z → b ≠ TO → b ≠ i1 → b ≠ i2 → h.get? b = some o → h'.get? b = some o) :
    h'.get? S = some (LObj (as.map Value.ref).toArray c) ∧
    ∃ c', ZSo knd kvs xs ys z TI TO i1 i2 l1 l2 S lo h₁ (i + 1) (h'.update S (Obj.mapSeq (·.push (Value.ref h.objs.size)))) c' (as ++ [h.objs.size]) := by
  have hS' := hk S _ O.oz.symm O.oTO.symm O.o1.symm O.o2.symm W.lst
  have up : ∀ b o, b ≠ S → h'.get? b = some o → (h'.update S (Obj.mapSeq (·.push (Value.ref h.objs.size)))).get? b = some o := fun b o hb q => (Heap.get?_update_other _ _ (Ne.symm hb)).trans q
  have hi : S ≠ h.objs.size := Nat.ne_of_lt W.big
  obtain ⟨c', hc⟩ := push_obj as h.objs.size c
  refine ⟨hS', c', mid.stay O up, fun b o hb q => ?_, (Heap.get?_update_self _ hS' rfl).trans (congrArg some hc), ?_, ⟨?_, ?_, ?_⟩, ?_⟩
  · exact up b o (low hb L.2.2.2.2) (hk b o (low hb L.1) (low hb L.2.1) (low hb L.2.2.1) (low hb L.2.2.2.1) (W.old b o hb q))
  · rw [List.length_append, W.len]; rfl
  · refine List.pairwise_append.mpr ⟨W.got.rise, List.pairwise_singleton _ _, fun a ha b hb => ?_⟩
    rw [List.mem_singleton.mp hb]
    exact W.got.there ha
  · intro a ha
    rcases List.mem_append.mp ha with ha | ha
    · exact W.got.above a ha
    · rw [List.mem_singleton.mp ha]; exact W.big
  · intro j b hj
    rcases Nat.lt_trichotomy j as.length with g | g | g
    · rw [List.getElem?_append_left g] at hj
      obtain ⟨u', k', x', e1, e2, e3⟩ := W.got.pairs j b hj
      have hb := W.got.above b (List.mem_of_getElem? hj)
      exact ⟨u', k', x', e1, e2, up b _ (Nat.ne_of_gt hb) (hk b _ (high L2.1 hb) (high L2.2.1 hb) (high L2.2.2.1 hb) (high L2.2.2.2 hb) e3)⟩
    · subst g
      have hb : h.objs.size = b := by simpa using hj
      subst hb
      exact ⟨u, k, x, by rw [W.len]; exact hx, hu, up _ _ hi.symm pr⟩
    · have no : (as ++ [h.objs.size])[j]? = none := List.getElem?_eq_none (by rw [List.length_append, List.length_singleton]; omega)
      rw [no] at hj; cases hj
  · have q : (h'.update S (Obj.mapSeq (·.push (Value.ref h.objs.size)))).get? h.objs.size = _ := up _ _ hi.symm pr
    exact Nat.lt_trans W.big (Heap.lt_size q)
theorem zso_loop (hh : A.handled = none) (D : ZipApart z TI TO i1 i2 l1 l2) (O : ZOff z TI TO i1 i2 l1 l2 S) (L : lo ≤ z ∧ lo ≤ TO ∧ lo ≤ i1 ∧ lo ≤ i2 ∧ lo ≤ S) (L2 : z < S ∧ TO < S ∧ i1 < S ∧ i2 < S)
    (hn : kvs.length ≤ sizeLine) (nx : xs.size = kvs.length) (ny : ys.size = kvs.length) (hxy : ∀ (i : Nat) (u x : Value), xs[i]? = some u → ys[i]? = some x → ∃ k, kvs[i]? = some (k, x) ∧ knd.is k u = true) (res : Value)
    (hR : ∀ h tk c as, (∀ b o, b < lo → h₁.get? b = some o → h.get? b = some o) → h.get? S = some (LObj (as.map Value.ref).toArray c) → as.length = kvs.length → KdxG knd kvs S h as → R (.ok (.ret res)) { s with heap := h, toks := tk }) :
    ∀ (k i : Nat) (h : Heap) (tk c : Nat) (as : List Addr), kvs.length - i = k → i ≤ kvs.length → ZSo knd kvs xs ys z TI TO i1 i2 l1 l2 S lo h₁ i h c as →
      codeAny (model prog w) A (.builtin "list.extend.loop" ⟨[.ref S, .ref z, res], []⟩) R { s with heap := h, toks := tk } := by
  intro k
  induction k with
  | zero =>
    intro i h tk c as hk hi W
    have e : i = kvs.length := by omega
    refine codeAny_builtin PySem.F.entry_extend_loop ?_
    rw [Around.under_plainId PySem.F.plain_extend_loop]
    show wpAny _ A.in1 (pyNext (.ref z) >>= _) _ _ _
    refine wpAny_bind (ZMid.last (s := { s with heap := h, toks := tk }) (A := A.in1) W.mid D hh (Array.getElem?_eq_none (by omega)) fun h' kp => ?_)
    dsimp only at kp
    refine wpAny_pure (hR h' tk c as (fun b o hb q => kp b o (low hb L.1) (low hb L.2.1) (low hb L.2.2.1) (low hb L.2.2.2.1) (W.old b o hb q)) (kp S _ O.oz.symm O.oTO.symm O.o1.symm O.o2.symm W.lst) (by rw [W.len]; exact e) ⟨W.got.rise, W.got.above, fun j a hj => ?_⟩)
    obtain ⟨u, kk, x, e1, e2, e3⟩ := W.got.pairs j a hj
    have ha := W.got.above a (List.mem_of_getElem? hj)
    exact ⟨u, kk, x, e1, e2, kp a _ (high L2.1 ha) (high L2.2.1 ha) (high L2.2.2.1 ha) (high L2.2.2.2 ha) e3⟩
  | succ k ih =>
    intro i h tk c as hk hi W
    have hlt : i < kvs.length := by omega
    have hx : xs[i]? = some xs[i] := Array.getElem?_eq_getElem (by omega)
    have hy : ys[i]? = some ys[i] := Array.getElem?_eq_getElem (by omega)
    obtain ⟨kk, e1, e2⟩ := hxy i _ _ hx hy
    refine codeAny_builtin PySem.F.entry_extend_loop ?_
    rw [Around.under_plainId PySem.F.plain_extend_loop]
    show wpAny _ A.in1 (pyNext (.ref z) >>= _) _ _ _
    refine wpAny_bind (ZMid.next (s := { s with heap := h, toks := tk }) (A := A.in1) W.mid D W.big hx hy fun h' mid pr hz kp => ?_)
    dsimp only at mid pr hz kp ⊢
    obtain ⟨hS', c', W'⟩ := zso_step W O L L2 e1 e2 mid pr hz kp
    have sz : (as.map Value.ref).toArray.size = i := by rw [List.size_toArray, List.length_map, W.len]
    show wpAny _ A.in1 (updateSeq S (·.push (Value.ref h.objs.size)) >>= _) _ _ _
    refine wpAny_bind ?_
    exact wpAny_updateSeq hS' rfl (wpAny_pure ⟨plainId_quiet PySem.F.plain_extend_loop _, ih (i + 1) _ tk c' _ (by omega) hlt W'⟩) (by rw [sz]; omega) (by show ((as.map Value.ref).toArray.push _).size ≤ sizeLine + 1; rw [Array.size_push, sz]; omega)
end
section
variable {knd : KeyKind prog w Key} {kvs : List (Key × Value)} {R : Result → Shared → Prop}
theorem zip_nolen : typeLookup (.type "zip") "__len__" = pure none := by rw [typeLookup_type, builtinLookup_eq_fast]; kernel_rfl
theorem zip_nohint : typeLookup (.type "zip") "__length_hint__" = pure none := by rw [typeLookup_type, builtinLookup_eq_fast]; kernel_rfl
theorem zip_hint {r : Addr} (hT : s.TypeIs (.ref r) "zip") {Q : Bool → Shared → Prop} (h : Q true s) : wpAny (model prog w) A (Builtin.List.listLengthHint (.ref r)) Q E s := by
  unfold Builtin.List.listLengthHint
  refine wpAny_bind (wpAny_specialOf hT zip_nolen ?_)
  refine wpAny_ite_split (fun hab => absurd hab (by decide)) (fun _ => ?_)
  refine wpAny_ite_split (fun hab => absurd hab (by decide)) (fun _ => ?_)
  exact wpAny_bind (wpAny_specialOf hT zip_nohint (wpAny_pure h))
/-- what stands ahead of the drawing -/
structure ZReady (knd : KeyKind prog w Key) (kvs : List (Key × Value)) (xs ys : Array Value) (z TI TO i1 i2 l1 l2 lo : Addr) (h₁ h : Heap) : Prop where
  hz : IsZip h z TI TO .none
  hTI : IsPair h TI (.ref i1) (.ref i2)
  hTO : IsPair h TO .none .none
  it1 : h.IsListIter i1 l1 0
  it2 : h.IsListIter i2 l2 0
  li1 : h.IsList l1 xs
  li2 : h.IsList l2 ys
  ap : ZipApart z TI TO i1 i2 l1 l2
  L : lo ≤ z ∧ lo ≤ TO ∧ lo ≤ i1 ∧ lo ≤ i2
  up : lo ≤ h.objs.size
  old : ∀ b o, h₁.get? b = some o → h.get? b = some o
  nx : xs.size = kvs.length
  ny : ys.size = kvs.length
  hn : kvs.length ≤ sizeLine
  hxy : ∀ (i : Nat) (u x : Value), xs[i]? = some u → ys[i]? = some x → ∃ k, kvs[i]? = some (k, x) ∧ knd.is k u = true
theorem ZReady.push {h₁ h : Heap} {lo : Addr} (Z : ZReady knd kvs xs ys z TI TO i1 i2 l1 l2 lo h₁ h) (o : Obj) : ZReady knd kvs xs ys z TI TO i1 i2 l1 l2 lo h₁ (h.push o) := by
  have k : ∀ b q, h.get? b = some q → (h.push o).get? b = some q := fun b q e => Heap.get?_push_of_some _ e
  exact ⟨k _ _ Z.hz, k _ _ Z.hTI, k _ _ Z.hTO, Z.it1.at fun q e => k _ q e, Z.it2.at fun q e => k _ q e, Z.li1.at fun q e => k _ q e, Z.li2.at fun q e => k _ q e, Z.ap, Z.L, Nat.le_trans Z.up (by rw [Heap.size_push]; exact Nat.le_succ _), fun b q e => k b q (Z.old b q e), Z.nx, Z.ny, Z.hn, Z.hxy⟩
theorem ZReady.below {h₁ h : Heap} {lo : Addr} (Z : ZReady knd kvs xs ys z TI TO i1 i2 l1 l2 lo h₁ h) : z < h.objs.size ∧ TI < h.objs.size ∧ TO < h.objs.size ∧ i1 < h.objs.size ∧ i2 < h.objs.size ∧ l1 < h.objs.size ∧ l2 < h.objs.size := by
  obtain ⟨_, a1, _⟩ := Z.it1
  obtain ⟨_, a2, _⟩ := Z.it2
  obtain ⟨_, a3, _⟩ := Z.li1
  obtain ⟨_, a4, _⟩ := Z.li2
  exact ⟨Heap.lt_size Z.hz, Heap.lt_size Z.hTI, Heap.lt_size Z.hTO, Heap.lt_size a1, Heap.lt_size a2, Heap.lt_size a3, Heap.lt_size a4⟩
/-- S is the last object, a new empty list -/
theorem zip_into {lo : Addr} {h₁ h₀ : Heap} (hh : A.handled = none) (Z : ZReady knd kvs xs ys z TI TO i1 i2 l1 l2 lo h₁ h₀) (hs : s.heap = h₀.push (LObj #[] 0))
    (hR : ∀ h tk c as, (∀ b o, b < lo → h₁.get? b = some o → h.get? b = some o) → h.get? h₀.objs.size = some (LObj (as.map Value.ref).toArray c) → as.length = kvs.length → KdxG knd kvs h₀.objs.size h as → R (.ok (.ret .none)) { s with heap := h, toks := tk }) :
    wpAny (model prog w) A.in1 (Builtin.«list.__init__» ⟨[.ref h₀.objs.size, .ref z], []⟩)
      (fun fin s' => match fin with | .done f => R (.ok f) s' | .again c' => c'.quiet = true ∧ codeAny (model prog w) A c' R s') (fun e s' => R (.error e) s') s := by
  obtain ⟨b1, b2, b3, b4, b5, b6, b7⟩ := Z.below
  have O : ZOff z TI TO i1 i2 l1 l2 h₀.objs.size := ⟨Nat.ne_of_lt b1, Nat.ne_of_lt b2, Nat.ne_of_lt b3, Nat.ne_of_lt b4, Nat.ne_of_lt b5, Nat.ne_of_lt b6, Nat.ne_of_lt b7⟩
  have P := Z.push (LObj #[] 0)
  rw [← hs] at P
  have hS : s.heap.get? h₀.objs.size = some (LObj #[] 0) := by rw [hs]; exact Heap.get?_push_size _ rfl
  generalize hSS : h₀.objs.size = S at *
  have m0 : ZMid xs ys z TI TO i1 i2 l1 l2 S 0 s.heap := ⟨P.hTI, P.it1, P.it2, P.li1, P.li2, .inl ⟨P.hz, _, _, P.hTO⟩⟩
  -- from any heap in which only S has turned, and is empty
  have run : ∀ (h : Heap) (c tk : Nat), (∀ b o, b ≠ S → s.heap.get? b = some o → h.get? b = some o) → h.get? S = some (LObj #[] c) → codeAny (model prog w) A (.builtin "list.extend.loop" ⟨[.ref S, .ref z, .none], []⟩) R { s with heap := h, toks := tk } := fun h c tk kp q => by
    refine zso_loop (lo := lo) (h₁ := h₁) hh Z.ap O ⟨Z.L.1, Z.L.2.1, Z.L.2.2.1, Z.L.2.2.2, by rw [← hSS]; exact Z.up⟩ ⟨b1, b3, b4, b5⟩ Z.hn Z.nx Z.ny Z.hxy .none hR kvs.length 0 h tk c [] (Nat.sub_zero _) (Nat.zero_le _) ?_
    refine ⟨m0.stay O kp, fun b o hb e => kp b o (Nat.ne_of_lt (Nat.lt_of_lt_of_le hb (by rw [← hSS]; exact Z.up))) (P.old b o e), q, rfl, ⟨List.Pairwise.nil, (fun _ ha => nomatch ha), fun j a hj => ?_⟩, Heap.lt_size q⟩
    have e2 : ([] : List Addr)[j]? = none := List.getElem?_eq_none (Nat.zero_le _)
    rw [e2] at hj
    cases hj
  show wpAny _ _ (do let was ← Builtin.List.listItems (.ref S); Builtin.List.listUpdate (.ref S) (fun _ => #[]); letGo was.toList.reverse; Builtin.List.listExtendWith (.ref S) (.ref z) .none) _ _ s
  refine wpAny_bind ?_
  unfold Builtin.List.listItems
  refine wpAny_bind (wpAny_seqItems hS rfl (wpAny_pure ?_))
  show wpAny _ _ (updateSeq S (fun _ => #[]) >>= fun _ => letGo ((#[] : Array Value).toList.reverse) >>= fun _ => Builtin.List.listExtendWith (.ref S) (.ref z) .none) _ _ s
  refine wpAny_bind (wpAny_updateSeq hS rfl ?_)
  have hS2 := Heap.get?_update_self (Obj.mapSeq (fun _ => (#[] : Array Value))) hS rfl
  have k2 : ∀ b o, b ≠ S → s.heap.get? b = some o → (s.heap.update S (Obj.mapSeq (fun _ => (#[] : Array Value)))).get? b = some o := fun b o hb e => (Heap.get?_update_other _ _ (Ne.symm hb)).trans e
  refine wpAny_bind (wpAny_letGo ?_)
  unfold Builtin.List.listExtendWith
  have hz2 : IsZip (s.heap.update S (Obj.mapSeq (fun _ => (#[] : Array Value)))) z TI TO .none := k2 _ _ O.oz P.hz
  have tz : Shared.TypeIs { s with heap := s.heap.update S (Obj.mapSeq (fun _ => (#[] : Array Value))) } (.ref z) "zip" := ⟨_, hz2, rfl⟩
  refine wpAny_bind (wpAny_typeOf (T := "zip") tz ?_)
  have n1 : Builtin.List.listSameRef (.ref S) (.ref z) = false := by simp [Builtin.List.listSameRef, O.oz.symm]
  have n2 : (Value.type "zip" == Value.type "list") = false := by decide
  have n3 : (Value.type "zip" == Value.type "tuple") = false := by decide
  simp only [n1, n2, n3, Bool.or_false, Bool.false_eq_true, if_false]
  refine wpAny_bind (wpAny_pyIter_zip hz2 ?_)
  refine wpAny_bind (wpAny_holding (zip_hint tz ?_))
  refine wpAny_ite_split (fun _ => ?_) (fun _ => wpAny_pure ⟨plainId_quiet PySem.F.plain_extend_loop _, run _ _ _ k2 hS2⟩)
  refine wpAny_bind (wpAny_rule ?_)
  refine wpAny_bind ?_
  show wpAny _ _ (updateSeq S (·.push .none) >>= fun _ => updateSeq S (·.pop)) _ _ _
  refine wpAny_bind (wpAny_updateSeq hS2 rfl ?_)
  have hS3 := Heap.get?_update_self (Obj.mapSeq (·.push Value.none)) hS2 rfl
  refine wpAny_updateSeq (hz := by seq_fits) hS3 rfl ?_
  have hS4 := Heap.get?_update_self (Obj.mapSeq (·.pop)) hS3 rfl
  refine wpAny_pure ⟨plainId_quiet PySem.F.plain_extend_loop _, run _ _ _ (fun b o hb e => ?_) hS4⟩
  exact (Heap.get?_update_other _ _ (Ne.symm hb)).trans ((Heap.get?_update_other _ _ (Ne.symm hb)).trans (k2 b o hb e))
theorem call_list_zip {lo : Addr} {h₁ : Heap} {Q : Value → Shared → Prop} (hh : A.handled = none) (Z : ZReady knd kvs xs ys z TI TO i1 i2 l1 l2 lo h₁ s.heap)
    (hQ : ∀ h tk c as, (∀ b o, b < lo → h₁.get? b = some o → h.get? b = some o) → h.get? s.heap.objs.size = some (LObj (as.map Value.ref).toArray c) → as.length = kvs.length → KdxG knd kvs s.heap.objs.size h as → Q (.ref s.heap.objs.size) { s with heap := h, toks := tk }) :
    wpAny (model prog w) A (call (.type "list") [.ref z]) Q E s := by
  refine callType_codes (Q₁ := fun obj s₁ => obj = .ref s.heap.objs.size ∧ s₁ = { s with heap := s.heap.push (LObj #[] 0) }) PySem.F.called_list (PySem.F.typeCall_list_1 _) PySem.F.entry_list_init (code_list_new _ ⟨rfl, rfl⟩) fun obj s₁ g => ?_
  obtain ⟨rfl, rfl⟩ := g
  have hS : (s.heap.push (LObj #[] 0)).get? s.heap.objs.size = some (LObj #[] 0) := Heap.get?_push_size _ rfl
  exact ⟨⟨_, hS, rfl⟩, PySem.F.args_list_init_2 _ _, zip_into (A := A.in1) hh Z rfl fun h tk c as k1 k2 k3 k4 => ⟨rfl, hQ h tk c as k1 k2 k3 k4⟩⟩
end
end

section
open LiI PySem.W
variable {X : Cx}
def rZipL (K : PySem.W.Frag) : List V → Hp → VK → Prop := fun vs H Q => ∃ (a b : Addr) (ts : List Int) (ms : List V), vs = [.ref a, .ref b] ∧ SqL K H a (ts.map V.int) ∧ SqL K H b ms ∧ ms.length = ts.length ∧
  ∀ (H' : Hp) (p : Addr) (as : List Addr), Same H H' → H p = none → (∀ t ∈ as, H t = none) → p ∉ as → H' p = some (.lst (as.map V.ref)) → as.length = ts.length →
    (∀ (i : Nat) (t : Int) (m : V), ts[i]? = some t → ms[i]? = some m → ∃ q, as[i]? = some q ∧ H' q = some (.tup [.int t, m])) → Q (.ref p) H'
theorem kv_of : ∀ {ts : List Int} {ms : List V} {us : List Value}, ms.length = ts.length → Vals ms us → KV ((ts.zip ms).map fun q => ((Sum.inl q.1 : Key), q.2)) ((ts.zip us).map fun q => ((Sum.inl q.1 : Key), q.2))
  | [], _, _, _, _ => by simp; exact .nil
  | _ :: _, [], _, h, _ => by simp at h
  | t :: ts, m :: ms, _, h, .cons r rr => .cons ⟨rfl, r⟩ (kv_of (by simpa using h) rr)
theorem pairs_laid {pins : List (Addr × Obj)} {σ : L2.St} {H : Hp} {s : Shared} {h' : Heap} {tk c : Nat} {S : Addr} {kvs : List (Key × V)} {vs : List (Key × Value)} {as : List Addr} (I : Inv X pins σ H s) (hz : kvs.length ≤ sizeLine) (kv : KV kvs vs) (hS0 : s.heap.objs.size ≤ S)
    (hk : ∀ b o, s.heap.get? b = some o → h'.get? b = some o) (hS : h'.get? S = some (LObj (as.map Value.ref).toArray c)) (hl : as.length = vs.length) (hG : KdxG (mixKind X.prog X.w) vs S h' as) :
    ∃ H' : Hp, Same H H' ∧ H S = none ∧ (∀ t ∈ as, H t = none) ∧ S ∉ as ∧ H' S = some (.lst (as.map V.ref)) ∧ Paired (fun (t : Addr) (q : Key × V) => H' t = some (.tup [kV q.1, q.2])) as kvs ∧ Inv X pins σ H' { s with heap := h', toks := tk } := by
  have lk : kvs.length = vs.length := Paired.length kv
  have hSn : S ∉ as := fun z => Nat.lt_irrefl _ (hG.above _ z)
  have nd : as.Nodup := List.Pairwise.imp (fun {a b} (h : a < b) => Nat.ne_of_lt h) hG.rise
  have fr : ∀ b, S ≤ b → H b = none := fun b hb => I.hok.fresh (Nat.le_trans hS0 hb)
  have new : ∀ t ∈ as, H t = none := fun t ht => fr t (Nat.le_of_lt (hG.above t ht))
  have newS : H S = none := fr S (Nat.le_refl _)
  have atP := putT_at as kvs (upd H S (.lst (as.map V.ref))) (by omega) nd
  have off : ∀ b, b ∉ as → b ≠ S → putT (upd H S (.lst (as.map V.ref))) as kvs b = H b := fun b g1 g2 => (putT_off as kvs _ g1).trans (upd_ne g2)
  have below : ∀ b o, s.heap.get? b = some o → b < S := fun b o q => Nat.lt_of_lt_of_le (Heap.lt_size q) hS0
  have kp : ∀ b u, H b = some u → (putT (upd H S (.lst (as.map V.ref))) as kvs) b = some u := fun b u q =>
    (off b (fun z => by rw [new b z] at q; cases q) (fun z => by rw [z, newS] at q; cases q)).trans q
  have eS : putT (upd H S (.lst (as.map V.ref))) as kvs S = some (.lst (as.map V.ref)) := (putT_off as kvs _ hSn).trans upd_same
  refine ⟨putT (upd H S (.lst (as.map V.ref))) as kvs, kp, newS, new, hSn, eS, atP, ?_⟩
  refine I.call' (ch := []) rfl ⟨fun b o q _ _ _ => hk b o q, fun b o q _ _ _ => ⟨o.slots, hk b o q⟩, fun b o q n _ => ?_, fun b o q _ => ⟨o, hk b o q⟩, fun b xs q => kp b _ q, fun b o u q => kp b _ q, fun b ps q => ⟨#[], by rw [kp b _ q]; simp⟩⟩ (fun b u q => ?_) I.bare fun b z => by simp at z
  · have g := below b o q
    exact (off b (fun z => absurd (Nat.lt_trans g (hG.above b z)) (Nat.lt_irrefl _)) (Nat.ne_of_lt g)).trans n
  · by_cases hb : b ∈ as
    · obtain ⟨j, pk, e1, e2, e3⟩ := paired_ix atP hb
      rw [e3] at q
      cases q
      obtain ⟨key, k, x, f1, f2, f3⟩ := hG.pairs j b e1
      obtain ⟨qv, g1, g2, g3⟩ := LiI.paired_get kv e2
      rw [f1] at g1
      cases g1
      have rk : RelV (kV pk.1) key := by
        rw [g2]
        exact relV_key (show keyIs k key = true from f2)
      exact ⟨by show 2 ≤ sizeLine; decide, [key, x], .cons rk (.cons g3 .nil), ⟨_, f3, rfl, _, rfl⟩⟩
    · by_cases hb2 : b = S
      · rw [hb2] at q ⊢
        rw [eS] at q
        cases q
        exact ⟨by rw [List.length_map]; omega, as.map Value.ref, c, vals_refs as, hS⟩
      · rw [off b hb hb2] at q
        exact (I.hok b u q).stay (fun d v _ y => hk d v y) (fun d y => kp d _ y) fun d xs y => kp d _ y
theorem pe_listZip {a b : Expr} {ta : TA} {p p2 q pos : Pos} (hc : X.calm = true) (hg : Gl X "list") (hm : X.mg "list" = none) (hg2 : Gl X "zip") (hm2 : X.mg "zip" = none) (ha : PA X [a, b] ta)
    (hs : starEach [.Call (.Name "zip" p2) [a, b] [] q] X.env = (false, eval (.Call (.Name "zip" p2) [a, b] [] q) X.env) :: starEach [] X.env := by rfl)
    (hs2 : starEach [a, b] X.env = (false, eval a X.env) :: starEach [b] X.env := by rfl) (hpl : (backTo q (starEach [b] X.env)).any (·.1) = false := by rfl) :
    PE X (.Call (.Name "list" p) [.Call (.Name "zip" p2) [a, b] [] q] [] pos) (tCB (rZipL X.K) ta) := by
  refine ⟨fun pins s σ H Q I h => ?_⟩
  refine wpAny_Call_Name_kw (ld_blt I hg hm (by decide +kernel : bootBuiltins "list" = some (.type "list")) ?_)
  refine PyProof.Rows.callWith_type1 ?_ hs rfl
  rw [hs]
  show wpAny _ _ (spliced ((false, eval (.Call (.Name "zip" p2) [a, b] [] q) X.env) :: backTo pos (starEach [] X.env))) _ _ s
  refine Calls.spliced_cons ?_
  refine PyProof.Rows.Call_ (ld_blt I hg2 hm2 PyProof.Rows.boot_zip (PyProof.Rows.callWith_type1 (thn (ha.run q pins s σ H _ I h) fun us s1 ⟨vs, H1, I1, r1, q1⟩ => ?_) hs2 hpl))
  obtain ⟨la, lb, ts, ms, ex, hqa, hqb, hlen, q2⟩ := q1
  subst ex
  cases r1 with
  | cons r rr =>
    cases rr with
    | cons r' rr =>
      cases rr
      cases r
      cases r'
      obtain ⟨its, rv, pa, za⟩ := I1.list hqa
      obtain ⟨its2, rv2, pb, zb⟩ := I1.list hqb
      have ea := rv.length
      have eb := rv2.length
      rw [List.length_map] at ea
      refine call_zip_2 pa.isList pb.isList fun h' hz hTI hTO h1 h2 hsz hk => ?_
      refine Calls.spliced_nil ?_
      have I2 : Inv X pins σ H1 { s1 with heap := h' } := I1.kept (t' := s1.toks) hk
      have kvl : ((ts.zip its2).map fun q => ((Sum.inl q.1 : Key), q.2)).length = ts.length := by
        rw [List.length_map, List.length_zip]
        omega
      have hit : ∀ (i : Nat) (t : Int) (u : Value), ts[i]? = some t → its[i]? = some u → ∃ k, u = Value.int t k := fun i t u e1 e2 => by
        obtain ⟨u', e3, e4⟩ := rv.get (i := i) (x := V.int t) (by rw [List.getElem?_map, e1]; rfl)
        rw [e2] at e3
        cases e3
        exact e4
      have Z : ZReady (mixKind X.prog X.w) ((ts.zip its2).map fun q => ((Sum.inl q.1 : Key), q.2)) its.toArray its2.toArray (s1.heap.objs.size + 4) (s1.heap.objs.size + 2) (s1.heap.objs.size + 3) s1.heap.objs.size (s1.heap.objs.size + 1) la lb s1.heap.objs.size s1.heap h' := by
        refine ⟨hz, hTI, hTO, h1, h2, pa.isList.at fun o e => hk _ o e, pb.isList.at fun o e => hk _ o e, PySem.W.ktu_apart s1.heap.objs.size la lb pa.lt pb.lt, ⟨Nat.le_add_right _ _, Nat.le_add_right _ _, Nat.le_refl _, Nat.le_add_right _ _⟩,
          by rw [hsz]; exact Nat.le_add_right _ _, hk, by rw [kvl, List.size_toArray]; omega, by rw [kvl, List.size_toArray]; omega, by rw [kvl]; rw [List.length_map] at za; exact za, fun i u x e1 e2 => ?_⟩
        have e1' : its[i]? = some u := by simpa using e1
        have e2' : its2[i]? = some x := by simpa using e2
        have hil : i < ts.length := by have := (List.getElem?_eq_some_iff.mp e1').1; omega
        have et : ts[i]? = some ts[i] := List.getElem?_eq_getElem hil
        obtain ⟨tk, rfl⟩ := hit i _ _ et e1'
        refine ⟨Sum.inl ts[i], ?_, keyIs_int ts[i] tk⟩
        have ez : (ts.zip its2)[i]? = some (ts[i], x) := List.getElem?_zip_eq_some.mpr ⟨et, e2'⟩
        rw [List.getElem?_map, ez]
        rfl
      refine call_list_zip (I1.ok.hd hc) Z fun h tk c as k1 k2 k3 k4 => ?_
      dsimp only at k2 k4 ⊢
      obtain ⟨H', g1, g2, g3, g4, g5, g6, J⟩ := pairs_laid (tk := tk) (c := c) I1 (kvs := (ts.zip ms).map fun q => ((Sum.inl q.1 : Key), q.2)) (by rw [List.length_map, List.length_zip]; rw [List.length_map] at za; omega) (kv_of hlen rv2) (by rw [hsz]; exact Nat.le_add_right _ _)
        (fun b o e => k1 b o (Heap.lt_size e) e) k2 k3 k4
      refine ⟨.ref _, H', J, rfl, q2 H' _ as g1 g2 g3 g4 g5 (by rw [k3, kvl]) fun i t m e1 e2 => ?_⟩
      have el := Paired.length g6
      have hz2 : ((ts.zip ms).map fun q => ((Sum.inl q.1 : Key), q.2))[i]? = some ((Sum.inl t : Key), m) := by
        have ez : (ts.zip ms)[i]? = some (t, m) := List.getElem?_zip_eq_some.mpr ⟨e1, e2⟩
        rw [List.getElem?_map, ez]
        rfl
      have hil : i < as.length := by rw [el]; exact (List.getElem?_eq_some_iff.mp hz2).1
      obtain ⟨y, f1, f2⟩ := LiI.paired_get g6 (List.getElem?_eq_getElem hil)
      rw [hz2] at f1
      cases f1
      exact ⟨_, List.getElem?_eq_getElem hil, f2⟩
end

/-! ### the row: what it is between two calls -/
structure R where
  wide : Nat
  given : Nat
  purse : Int
  ord : List Int
  mrk : Int → Int
/-- what holds of every row -/
structure Good (r : R) : Prop where
  w4 : 4 ≤ r.wide
  w60 : r.wide ≤ 60
  nd : r.ord.Nodup
  num : ∀ x ∈ r.ord, 0 ≤ x ∧ x < r.given
  len : r.ord.length ≤ 200
  lo : ∀ x ∈ r.ord, 0 ≤ r.mrk x
  hi : ∀ x ∈ r.ord, r.mrk x < 2 ^ r.wide
  up : r.ord.Pairwise fun x y => r.mrk x < r.mrk y
  few : r.given ≤ 100000
def baseM (m : Int) (l : Nat) : Int := m / 2 ^ l * 2 ^ l
def lies (r : R) (l : Nat) (f x : Int) : Bool := decide (f ≤ r.mrk x) && decide (r.mrk x < f + 2 ^ l)
def cnt (r : R) (m : Int) (l : Nat) : Nat := (r.ord.filter (lies r l (baseM m l))).length
def fits (r : R) (m : Int) (l : Nat) : Bool := !decide ((4 : Int) ^ l < ((cnt r m l : Int) + 1) * 3 ^ l)
/-- the least level from which a stretch around m bears one more -/
def findL (r : R) (m : Int) : Option Nat := (List.range (r.wide + 1)).find? (fits r m)
def aheadM (r : R) : Nat → Int
  | 0 => -1
  | p + 1 => r.mrk (r.ord.getD p 0)
def behindM (r : R) (p : Nat) : Int := if p < r.ord.length then r.mrk (r.ord.getD p 0) else 2 ^ r.wide
def ordIns (r : R) (p : Nat) : List Int := r.ord.take p ++ [(r.given : Int)] ++ r.ord.drop p
def inside (r : R) (p : Nat) (L : Nat) (f : Int) : List Int := (ordIns r p).filter fun x => decide (x = (r.given : Int)) || lies r L f x

/-- what is spread, and the new marks; none: the putting is refused -/
def marksFor (r : R) (p : Nat) : Option (Option (Nat × Int) × List (Int × Int)) :=
  if 2 ≤ behindM r p - aheadM r p then some (none, [((r.given : Int), (aheadM r p + behindM r p) / 2)])
  else match findL r (max (aheadM r p) 0) with
    | none => none
    | some L => some (some (L, baseM (max (aheadM r p) 0) L), (inside r p L (baseM (max (aheadM r p) 0) L)).zip (spreadL L (baseM (max (aheadM r p) 0) L) (inside r p L (baseM (max (aheadM r p) 0) L)).length))
def setM (f : Int → Int) (q : Int × Int) : Int → Int := fun y => if y = q.1 then q.2 else f y
def mkAll (f : Int → Int) (qs : List (Int × Int)) : Int → Int := qs.foldl setM f
def changedOf (r : R) (marked : List (Int × Int)) : List (Int × Int) := marked.filter fun q => decide (q.1 ≠ (r.given : Int)) && decide (r.mrk q.1 ≠ q.2)
def putR (r : R) (p : Nat) (marked : List (Int × Int)) : R :=
  { r with ord := ordIns r p, given := r.given + 1, purse := r.purse + 8 * r.wide - (changedOf r marked).length, mrk := mkAll r.mrk marked }
def takeR (r : R) (x : Int) : R := { r with ord := r.ord.erase x }
def placeOf (r : R) : Option Int → Nat
  | none => 0
  | some x => r.ord.idxOf x + 1
def oneV : Option Int → V
  | none => .non
  | some x => .int x
/-! ### how it stands in the heap -/
def flds (w : Int) (l d : Addr) (g pu : Int) : List (Str × V) := [("_wide", .int w), ("_order", .ref l), ("_marks", .ref d), ("_given", .int g), ("_purse", .int pu)]
theorem fl_wide (w : Int) (l d : Addr) (g pu : Int) : (flds w l d g pu).lookup ("_wide" : Str) = some (.int w) := rfl
theorem fl_order (w : Int) (l d : Addr) (g pu : Int) : (flds w l d g pu).lookup ("_order" : Str) = some (.ref l) := rfl
theorem fl_marks (w : Int) (l d : Addr) (g pu : Int) : (flds w l d g pu).lookup ("_marks" : Str) = some (.ref d) := rfl
theorem fl_given (w : Int) (l d : Addr) (g pu : Int) : (flds w l d g pu).lookup ("_given" : Str) = some (.int g) := rfl
theorem fl_purse (w : Int) (l d : Addr) (g pu : Int) : (flds w l d g pu).lookup ("_purse" : Str) = some (.int pu) := rfl
theorem fl_put_order (w : Int) (l d l' : Addr) (g pu : Int) : putF "_order" (.ref l') (flds w l d g pu) = flds w l' d g pu := rfl
theorem fl_put_given (w : Int) (l d : Addr) (g pu g' : Int) : putF "_given" (.int g') (flds w l d g pu) = flds w l d g' pu := rfl
theorem fl_put_purse (w : Int) (l d : Addr) (g pu pu' : Int) : putF "_purse" (.int pu') (flds w l d g pu) = flds w l d g pu' := rfl
theorem fl_new (w : Int) (l d : Addr) (g pu : Int) : putF "_purse" (.int pu) (putF "_given" (.int g) (putF "_marks" (.ref d) (putF "_order" (.ref l) (putF "_wide" (.int w) [])))) = flds w l d g pu := rfl
structure DictIs (kvs : List (Key × V)) (ord : List Int) (mk : Int → Int) : Prop where
  nd : (kvs.map (·.1)).Nodup
  get : ∀ x : Int, valV kvs (.inl x) = if x ∈ ord then some (.int (mk x)) else none
structure RowAt (C : Addr) (H : Hp) (p l d : Addr) (r : R) : Prop where
  ob : ∃ dx, H p = some (.ins C dx (flds r.wide l d r.given r.purse))
  li : H l = some (.lst (r.ord.map V.int))
  di : ∃ kvs, H d = some (.dK kvs) ∧ kvs.length ≤ r.given ∧ DictIs kvs r.ord r.mrk
theorem RowAt.keep {C : Addr} {H H' : Hp} {p l d : Addr} {r : R} (S : RowAt C H p l d r) (e : Same H H') : RowAt C H' p l d r :=
  ⟨let ⟨dx, h⟩ := S.ob; ⟨dx, e _ _ h⟩, e _ _ S.li, let ⟨kvs, h, q⟩ := S.di; ⟨kvs, e _ _ h, q⟩⟩
theorem RowAt.npl {C : Addr} {H : Hp} {p l d : Addr} {r : R} (S : RowAt C H p l d r) : p ≠ l := let ⟨_, h⟩ := S.ob; ne_of h S.li (by intro z; cases z)
theorem RowAt.npd {C : Addr} {H : Hp} {p l d : Addr} {r : R} (S : RowAt C H p l d r) : p ≠ d := let ⟨_, h⟩ := S.ob; let ⟨_, k, _⟩ := S.di; ne_of h k (by intro z; cases z)
theorem RowAt.nld {C : Addr} {H : Hp} {p l d : Addr} {r : R} (S : RowAt C H p l d r) : l ≠ d := let ⟨_, k, _⟩ := S.di; ne_of S.li k (by intro z; cases z)

structure Txt (K : PySem.W.Frag) (mg : Str → Option Value) (C CF : Addr) : Prop where
  cl : Cls K C
  nW : NoAttr K C "_wide"
  nO : NoAttr K C "_order"
  nM : NoAttr K C "_marks"
  nG : NoAttr K C "_given"
  nP : NoAttr K C "_purse"
  gRow : mg "Row" = some (.ref C)
  mkRow : MkI K C "Row.__init__" s_Row___init__ ["self", "wide"]
  m_put : MdD K C "put" "Row.put" s_Row_put
  m_take : Md K C "take" "Row.take" s_Row_take ["self", "one"] []
  m_things : Md K C "things" "Row.things" s_Row_things ["self"] []
  m__check_thing : Md K C "_check_thing" "Row._check_thing" s_Row__check_thing ["self", "one"] []
  m__place_behind : Md K C "_place_behind" "Row._place_behind" s_Row__place_behind ["self", "one"] []
  m__marks_around : Md K C "_marks_around" "Row._marks_around" s_Row__marks_around ["self", "place"] []
  m__stretch_to_spread : Md K C "_stretch_to_spread" "Row._stretch_to_spread" s_Row__stretch_to_spread ["self", "mark"] []
  m__spread_marks : Md K C "_spread_marks" "Row._spread_marks" s_Row__spread_marks ["self", "stretch", "order", "number"] []
  m__lies_in : Md K C "_lies_in" "Row._lies_in" s_Row__lies_in ["self", "thing", "level", "first"] []
  full : ExcC K mg "Full" CF
  d_check_within : Df K mg "check_within" s_check_within ["value", "least", "most"]
  d_is_too_full : Df K mg "is_too_full" s_is_too_full ["level", "many"]
  d_stretch_at : Df K mg "stretch_at" s_stretch_at ["level", "mark"]
  d_spread : Df K mg "spread" s_spread ["level", "start", "many"]
  d_power : Df K mg "power" s_power ["base", "times"]
  g_MOST_LEVEL : Kn mg "MOST_LEVEL" (.int 60)
  g_MOST_SPREAD : Kn mg "MOST_SPREAD" (.int 1024)
  g_LEAST_WIDE : Kn mg "LEAST_WIDE" (.int 4)
  g_MOST_WIDE : Kn mg "MOST_WIDE" (.int 60)
  g_MOST_THINGS : Kn mg "MOST_THINGS" (.int 200)
  g_PAID_FOR_EACH_WIDE : Kn mg "PAID_FOR_EACH_WIDE" (.int 8)
  n_type : mg "type" = none
  n_int : mg "int" = none
  n_len : mg "len" = none
  n_range : mg "range" = none
  n_min : mg "min" = none
  n_max : mg "max" = none
  n_list : mg "list" = none
  n_zip : mg "zip" = none

  m_mark : Md K C "mark" "Row.mark" s_Row_mark ["self", "one"] []
  m_purse : Md K C "purse" "Row.purse" s_Row_purse ["self"] []
  d__law_next : Df K mg "_law_next" s__law_next ["_law_state"]
  d__law_too_many : Df K mg "_law_too_many" s__law_too_many ["_law_level", "_law_many"]
  d__law_begun : Df K mg "_law_begun" s__law_begun ["_law_wide"]
  d__law_put : Df K mg "_law_put" s__law_put ["_law_m", "_law_one"]
  d__law_taken : Df K mg "_law_taken" s__law_taken ["_law_m", "_law_one"]
  d__law_place : Df K mg "_law_place" s__law_place ["_law_state", "_law_m"]
  d__law_tried : Df K mg "_law_tried" s__law_tried ["_law_row", "_law_one"]
  d__law_alike : Df K mg "_law_alike" s__law_alike ["_law_row", "_law_m"]
  d_law : Df K mg "law" s_law ["_law_script"]
  n_isinstance : mg "isinstance" = none
  n_bool : mg "bool" = none
  n_enumerate : mg "enumerate" = none
/-! ### the mathematics of a putting -/
theorem Good.ne {r : R} (G : Good r) {x : Int} (h : x ∈ r.ord) : ¬ x = (r.given : Int) := fun e => by
  have := G.num x h
  omega
theorem mem_ins {r : R} {p : Nat} {x : Int} : x ∈ ordIns r p ↔ x = (r.given : Int) ∨ x ∈ r.ord := by
  unfold ordIns
  rw [List.mem_append, List.mem_append, List.mem_singleton]
  have h : x ∈ r.ord ↔ x ∈ r.ord.take p ∨ x ∈ r.ord.drop p := by
    rw [← List.mem_append, List.take_append_drop]
  rw [h]
  constructor
  · rintro ((a | a) | a)
    · exact .inr (.inl a)
    · exact .inl a
    · exact .inr (.inr a)
  · rintro (a | a | a)
    · exact .inl (.inr a)
    · exact .inl (.inl a)
    · exact .inr a
theorem ins_len {r : R} {p : Nat} : (ordIns r p).length = r.ord.length + 1 := by
  unfold ordIns
  have h : (r.ord.take p).length + (r.ord.drop p).length = r.ord.length := by rw [← List.length_append, List.take_append_drop]
  rw [List.length_append, List.length_append, List.length_singleton]
  omega
theorem filter_same {r : R} (G : Good r) {L : Nat} {f : Int} {xs : List Int} (h : ∀ x ∈ xs, x ∈ r.ord) : xs.filter (fun x => decide (x = (r.given : Int)) || lies r L f x) = xs.filter (lies r L f) := by
  apply List.filter_congr
  intro x hx
  rw [decide_eq_false (G.ne (h x hx)), Bool.false_or]
theorem inside_split {r : R} (G : Good r) {p L : Nat} {f : Int} : inside r p L f = (r.ord.take p).filter (lies r L f) ++ [(r.given : Int)] ++ (r.ord.drop p).filter (lies r L f) := by
  unfold inside ordIns
  rw [List.filter_append, List.filter_append, filter_same G fun x hx => List.mem_of_mem_take hx, filter_same G fun x hx => List.mem_of_mem_drop hx]
  congr 2
  simp
theorem inside_len {r : R} (G : Good r) {p L : Nat} {f : Int} : (inside r p L f).length = (r.ord.filter (lies r L f)).length + 1 := by
  rw [inside_split G, List.length_append, List.length_append, List.length_singleton]
  have h : (r.ord.filter (lies r L f)).length = ((r.ord.take p).filter (lies r L f)).length + ((r.ord.drop p).filter (lies r L f)).length := by
    rw [← List.length_append, ← List.filter_append, List.take_append_drop]
  omega
theorem pow_nat (a l : Nat) : ((a : Int) ^ l) = ((a ^ l : Nat) : Int) := by push_cast; rfl
theorem fits_le {r : R} {m : Int} {L : Nat} (h : fits r m L = true) : cnt r m L + 1 ≤ 2 ^ L := by
  unfold fits at h
  have h1 : ¬ (4 : Int) ^ L < ((cnt r m L : Int) + 1) * 3 ^ L := by simpa using h
  have e4 : (4 : Int) ^ L = ((4 ^ L : Nat) : Int) := pow_nat 4 L
  have e3 : (3 : Int) ^ L = ((3 ^ L : Nat) : Int) := pow_nat 3 L
  rw [e4, e3] at h1
  have h2 : (cnt r m L + 1) * 3 ^ L ≤ 4 ^ L := by
    have : ((cnt r m L : Int) + 1) * ((3 ^ L : Nat) : Int) = (((cnt r m L + 1) * 3 ^ L : Nat) : Int) := by push_cast; rfl
    rw [this] at h1
    omega
  have h3 : (4 : Nat) ^ L = 2 ^ L * 2 ^ L := by rw [← Nat.mul_pow]
  have h4 : (2 : Nat) ^ L ≤ 3 ^ L := Nat.pow_le_pow_left (by decide) L
  have hp : 0 < (2 : Nat) ^ L := Nat.pow_pos (by decide)
  have h5 : (cnt r m L + 1) * 2 ^ L ≤ 2 ^ L * 2 ^ L := Nat.le_trans (Nat.mul_le_mul_left _ h4) (h3 ▸ h2)
  exact Nat.le_of_mul_le_mul_right h5 hp
theorem findL_fits {r : R} {m : Int} {L : Nat} (h : findL r m = some L) : fits r m L = true ∧ L ≤ r.wide ∧ ∀ j, j < L → fits r m j = false := by
  unfold findL at h
  rw [List.find?_range_eq_some] at h
  obtain ⟨h1, h2, h3⟩ := h
  have := List.mem_range.mp h2
  exact ⟨h1, by omega, fun j hj => by simpa using h3 j hj⟩
structure MarkedOk (r : R) (marked : List (Int × Int)) : Prop where
  keys : ∀ q ∈ marked, q.1 = (r.given : Int) ∨ q.1 ∈ r.ord
  has : (r.given : Int) ∈ marked.map (·.1)
  len : marked.length ≤ 201
theorem marks_ok {r : R} (G : Good r) {p : Nat} {st : Option (Nat × Int)} {marked : List (Int × Int)} (h : marksFor r p = some (st, marked)) : MarkedOk r marked := by
  unfold marksFor at h
  split at h
  · cases h
    refine ⟨fun q hq => ?_, ?_, by show 1 ≤ 201; decide⟩
    · rw [List.mem_singleton.mp hq]; exact .inl rfl
    · exact List.mem_singleton.mpr rfl
  · split at h
    · cases h
    · rename_i L hL
      cases h
      have e : (((inside r p L (baseM (max (aheadM r p) 0) L)).zip (spreadL L (baseM (max (aheadM r p) 0) L) (inside r p L (baseM (max (aheadM r p) 0) L)).length)).map (·.1)) = inside r p L (baseM (max (aheadM r p) 0) L) := by
        apply List.map_fst_zip
        unfold spreadL
        rw [List.length_map, List.length_range]
        exact Nat.le_refl _
      refine ⟨fun q hq => ?_, ?_, ?_⟩
      · have h1 : q.1 ∈ inside r p L (baseM (max (aheadM r p) 0) L) := by rw [← e]; exact List.mem_map_of_mem hq
        exact mem_ins.mp (List.mem_filter.mp h1).1
      · rw [e]
        unfold inside
        rw [List.mem_filter]
        exact ⟨mem_ins.mpr (.inl rfl), by simp⟩
      · rw [List.length_zip]
        have h1 : (inside r p L (baseM (max (aheadM r p) 0) L)).length ≤ (ordIns r p).length := List.length_filter_le ..
        rw [ins_len] at h1
        have := G.len
        omega
theorem getD_mem {xs : List Int} {i : Nat} (h : i < xs.length) : xs.getD i 0 ∈ xs := by
  rw [List.getD_eq_getElem?_getD, List.getElem?_eq_getElem h]
  exact List.getElem_mem h
theorem ahead_lt {r : R} (G : Good r) {n : Nat} (h : n ≤ r.ord.length) : aheadM r n < 2 ^ r.wide := by
  cases n with
  | zero =>
    show (-1 : Int) < 2 ^ r.wide
    have := two_pow_pos r.wide
    omega
  | succ n => exact G.hi _ (getD_mem (by omega))
theorem baseM_lo {m : Int} {l : Nat} (h : 0 ≤ m) : 0 ≤ baseM m l := Int.mul_nonneg (Int.ediv_nonneg h (Int.le_of_lt (two_pow_pos l))) (Int.le_of_lt (two_pow_pos l))
theorem baseM_le {m : Int} {l : Nat} : baseM m l ≤ m := Int.ediv_mul_le _ (Int.ne_of_gt (two_pow_pos l))
theorem baseM_hi {m : Int} {l : Nat} : m < baseM m l + 2 ^ l := by
  have := Int.lt_ediv_add_one_mul_self m (two_pow_pos l)
  rw [Int.add_mul, Int.one_mul] at this
  exact this
theorem putK_old {kvs : List (Key × V)} {k : Key} {v u : V} (h : valV kvs k = some u) : putK kvs k v = kvs.map (fun kv => if kv.1 = k then (kv.1, v) else kv) := by
  unfold putK
  rw [valV_any, h]
  rfl
theorem putK_keys {kvs : List (Key × V)} {k : Key} {v u : V} (h : valV kvs k = some u) : (putK kvs k v).map (·.1) = kvs.map (·.1) := by
  rw [putK_old h, List.map_map]
  apply List.map_congr_left
  intro q _
  show (if q.1 = k then (q.1, v) else q).1 = q.1
  split <;> rfl
theorem putK_nd {kvs : List (Key × V)} {k : Key} {v : V} (h : (kvs.map (·.1)).Nodup) : ((putK kvs k v).map (·.1)).Nodup := by
  cases e : valV kvs k with
  | none => exact nd_putK v h e
  | some u => rw [putK_keys e]; exact h
theorem putK_len {kvs : List (Key × V)} {k : Key} {v u : V} (h : valV kvs k = some u) : (putK kvs k v).length = kvs.length := by
  rw [putK_old h, List.length_map]
/-- the dict while the new marks are stored -/
structure DMid (r : R) (qs : List (Int × Int)) (kvs : List (Key × V)) : Prop where
  nd : (kvs.map (·.1)).Nodup
  le : kvs.length ≤ r.given + 1
  le0 : valV kvs (.inl (r.given : Int)) = none → kvs.length ≤ r.given
  get : ∀ x : Int, valV kvs (.inl x) = if x ∈ r.ord ∨ (x = (r.given : Int) ∧ (r.given : Int) ∈ qs.map (·.1)) then some (.int (mkAll r.mrk qs x)) else none
theorem mkAll_snoc (f : Int → Int) (qs : List (Int × Int)) (q : Int × Int) : mkAll f (qs ++ [q]) = setM (mkAll f qs) q := by
  unfold mkAll
  rw [List.foldl_append]
  rfl
theorem DMid.start {r : R} {kvs : List (Key × V)} (D : DictIs kvs r.ord r.mrk) (h : kvs.length ≤ r.given) : DMid r [] kvs := by
  refine ⟨D.nd, by omega, fun _ => h, fun x => ?_⟩
  rw [D.get]
  by_cases e : x ∈ r.ord
  · rw [if_pos e, if_pos (.inl e)]; rfl
  · rw [if_neg e, if_neg]
    rintro (z | ⟨_, z⟩)
    · exact e z
    · cases z
theorem DMid.step {r : R} {qs : List (Int × Int)} {kvs : List (Key × V)} {q : Int × Int} (G : Good r) (D : DMid r qs kvs) (hq : q.1 = (r.given : Int) ∨ q.1 ∈ r.ord) : DMid r (qs ++ [q]) (putK kvs (.inl q.1) (V.int q.2)) := by
  have hg : ∀ x : Int, valV (putK kvs (.inl q.1 : Key) (V.int q.2)) (.inl x) = if x = q.1 then some (V.int q.2) else valV kvs (.inl x) := fun x => by
    rw [valV_put]
    by_cases e : x = q.1
    · rw [if_pos e, if_pos (by rw [e])]
    · rw [if_neg e, if_neg (fun z => e (Sum.inl.inj z))]
  refine ⟨putK_nd D.nd, ?_, fun h => ?_, fun x => ?_⟩
  · cases e : valV kvs (.inl q.1 : Key) with
    | some u => rw [putK_len e]; exact D.le
    | none =>
      have : q.1 = (r.given : Int) := by
        rcases hq with z | z
        · exact z
        · rw [D.get, if_pos (.inl z)] at e
          cases e
      rw [this] at e ⊢
      rw [putK_new _ e, List.length_append]
      have := D.le0 e
      show kvs.length + 1 ≤ _
      omega
  · rw [hg] at h
    by_cases e : (r.given : Int) = q.1
    · rw [if_pos e] at h
      cases h
    · rw [if_neg e] at h
      have hm : q.1 ∈ r.ord := by
        rcases hq with z | z
        · exact absurd z.symm e
        · exact z
      have e2 : valV kvs (.inl q.1 : Key) = some (.int (mkAll r.mrk qs q.1)) := by rw [D.get, if_pos (.inl hm)]
      rw [putK_len e2]
      exact D.le0 h
  · rw [hg, mkAll_snoc]
    by_cases e : x = q.1
    · have e2 : setM (mkAll r.mrk qs) q x = q.2 := if_pos e
      rw [if_pos e, e2, if_pos]
      rcases hq with z | z
      · refine .inr ⟨by rw [e, z], ?_⟩
        rw [List.map_append, ← z]
        exact List.mem_append_right _ (List.mem_singleton.mpr rfl)
      · exact .inl (by rw [e]; exact z)
    · have e2 : setM (mkAll r.mrk qs) q x = mkAll r.mrk qs x := if_neg e
      rw [if_neg e, D.get, e2]
      have e3 : (x ∈ r.ord ∨ x = (r.given : Int) ∧ (r.given : Int) ∈ (qs ++ [q]).map (·.1)) ↔ (x ∈ r.ord ∨ x = (r.given : Int) ∧ (r.given : Int) ∈ qs.map (·.1)) := by
        rw [List.map_append, List.mem_append]
        constructor
        · rintro (a | ⟨a, b | b⟩)
          · exact .inl a
          · exact .inr ⟨a, b⟩
          · exact absurd (a.trans (List.mem_singleton.mp b)) e
        · rintro (a | ⟨a, b⟩)
          · exact .inl a
          · exact .inr ⟨a, .inl b⟩
      simp only [e3]
theorem DMid.done {r : R} {n : Nat} {marked : List (Int × Int)} {kvs : List (Key × V)} (M : MarkedOk r marked) (D : DMid r marked kvs) : DictIs kvs (putR r n marked).ord (putR r n marked).mrk := by
  refine ⟨D.nd, fun x => ?_⟩
  rw [D.get]
  show _ = if x ∈ ordIns r n then some (V.int (mkAll r.mrk marked x)) else none
  have e : (x ∈ r.ord ∨ x = (r.given : Int) ∧ (r.given : Int) ∈ marked.map (·.1)) ↔ x ∈ ordIns r n := by
    rw [mem_ins]
    constructor
    · rintro (a | ⟨a, _⟩)
      · exact .inr a
      · exact .inl a
    · rintro (a | a)
      · exact .inr ⟨a, M.has⟩
      · exact .inl a
  simp only [e]

/-! ### a putting keeps what holds of every row -/
theorem mkAll_not {qs : List (Int × Int)} {f : Int → Int} {x : Int} (h : ¬ x ∈ qs.map (·.1)) : mkAll f qs x = f x := by
  induction qs generalizing f with
  | nil => rfl
  | cons q r ih =>
    rw [List.map_cons, List.mem_cons, not_or] at h
    show mkAll (setM f q) r x = f x
    rw [ih h.2]
    exact if_neg h.1
theorem mkAll_at {qs : List (Int × Int)} {f : Int → Int} (hn : (qs.map (·.1)).Nodup) {i : Nat} {q : Int × Int} (h : qs[i]? = some q) : mkAll f qs q.1 = q.2 := by
  induction qs generalizing f i with
  | nil => simp at h
  | cons u r ih =>
    rw [List.map_cons, List.nodup_cons] at hn
    show mkAll (setM f u) r q.1 = q.2
    cases i with
    | zero =>
      have e : u = q := Option.some.inj h
      subst e
      rw [mkAll_not hn.1]
      exact if_pos rfl
    | succ i => exact ih hn.2 h
theorem ins_nd {r : R} (G : Good r) {n : Nat} : (ordIns r n).Nodup := by
  unfold ordIns
  have h := G.nd
  rw [← List.take_append_drop n r.ord, List.nodup_append] at h
  obtain ⟨h1, h2, h3⟩ := h
  have hg : ∀ x ∈ r.ord, x ≠ (r.given : Int) := fun x hx => G.ne hx
  rw [List.nodup_append, List.nodup_append]
  refine ⟨⟨h1, by simp, fun a ha b hb => ?_⟩, h2, fun a ha b hb => ?_⟩
  · rw [List.mem_singleton.mp hb]
    exact hg a (List.mem_of_mem_take ha)
  · rcases List.mem_append.mp ha with ha | ha
    · exact h3 a ha b hb
    · rw [List.mem_singleton.mp ha]
      exact fun e => hg b (List.mem_of_mem_drop hb) e.symm
theorem take_le_ahead {r : R} (G : Good r) {n : Nat} {x : Int} (h : x ∈ r.ord.take n) (hn : n ≤ r.ord.length) : r.mrk x ≤ aheadM r n := by
  obtain ⟨i, hi⟩ := List.mem_iff_getElem?.mp h
  have hil : i < (r.ord.take n).length := (List.getElem?_eq_some_iff.mp hi).1
  rw [List.length_take] at hil
  cases n with
  | zero => omega
  | succ k =>
    have e1 : r.ord[i]? = some x := by
      rw [List.getElem?_take] at hi
      split at hi
      · exact hi
      · cases hi
    have hk : k < r.ord.length := by omega
    have e2 : r.ord.getD k 0 = r.ord[k] := by rw [List.getD_eq_getElem?_getD, List.getElem?_eq_getElem hk]; rfl
    show r.mrk x ≤ r.mrk (r.ord.getD k 0)
    rw [e2]
    have hil2 : i < r.ord.length := by omega
    have e3 : r.ord[i] = x := by
      rw [List.getElem?_eq_getElem hil2] at e1
      exact Option.some.inj e1
    by_cases hik : i = k
    · subst hik
      rw [e3]
      exact Int.le_refl _
    · have := List.pairwise_iff_getElem.mp G.up i k hil2 hk (by omega)
      rw [e3] at this
      exact Int.le_of_lt this
theorem behind_le_drop {r : R} (G : Good r) {n : Nat} {x : Int} (h : x ∈ r.ord.drop n) : behindM r n ≤ r.mrk x := by
  obtain ⟨i, hi⟩ := List.mem_iff_getElem?.mp h
  rw [List.getElem?_drop] at hi
  obtain ⟨hil, e3⟩ := List.getElem?_eq_some_iff.mp hi
  have hn : n < r.ord.length := by omega
  unfold behindM
  rw [if_pos hn]
  have e2 : r.ord.getD n 0 = r.ord[n] := by rw [List.getD_eq_getElem?_getD, List.getElem?_eq_getElem hn]; rfl
  rw [e2]
  by_cases hik : i = 0
  · subst hik
    simp only [Nat.add_zero] at e3
    rw [e3]
    exact Int.le_refl _
  · have := List.pairwise_iff_getElem.mp G.up n (n + i) hn hil (by omega)
    rw [e3] at this
    exact Int.le_of_lt this
theorem ahead_lt_behind {r : R} (G : Good r) {n : Nat} (hn : n ≤ r.ord.length) : aheadM r n < behindM r n := by
  by_cases h : n < r.ord.length
  · have hb : behindM r n = r.mrk r.ord[n] := by
      unfold behindM
      rw [if_pos h, List.getD_eq_getElem?_getD, List.getElem?_eq_getElem h]; rfl
    cases n with
    | zero =>
      have := G.lo _ (List.getElem_mem h)
      rw [hb]
      show (-1 : Int) < _
      omega
    | succ k =>
      have hk : k < r.ord.length := by omega
      have e2 : r.ord.getD k 0 = r.ord[k] := by rw [List.getD_eq_getElem?_getD, List.getElem?_eq_getElem hk]; rfl
      rw [hb]
      show r.mrk (r.ord.getD k 0) < _
      rw [e2]
      exact List.pairwise_iff_getElem.mp G.up k (k + 1) hk h (by omega)
  · have hb : behindM r n = 2 ^ r.wide := if_neg h
    rw [hb]
    exact ahead_lt G hn
theorem behind_hi {r : R} (G : Good r) {n : Nat} : behindM r n ≤ 2 ^ r.wide := by
  unfold behindM
  split
  · rename_i h
    exact Int.le_of_lt (G.hi _ (getD_mem h))
  · exact Int.le_refl _
theorem ahead_lo {r : R} (G : Good r) {n : Nat} (hn : n ≤ r.ord.length) : -1 ≤ aheadM r n := by
  cases n with
  | zero => exact Int.le_refl _
  | succ k =>
    have := G.lo _ (getD_mem (xs := r.ord) (i := k) (by omega))
    show -1 ≤ r.mrk (r.ord.getD k 0)
    omega
/-- the parts that hang on the marks alone -/
theorem good_of {r : R} (G : Good r) {n : Nat} {marked : List (Int × Int)} (h200 : r.ord.length < 200) (hg : r.given < 100000)
    (lo : ∀ x ∈ ordIns r n, 0 ≤ mkAll r.mrk marked x) (hi : ∀ x ∈ ordIns r n, mkAll r.mrk marked x < 2 ^ r.wide) (up : (ordIns r n).Pairwise fun x y => mkAll r.mrk marked x < mkAll r.mrk marked y) : Good (putR r n marked) := by
  refine ⟨G.w4, G.w60, ins_nd G, fun x hx => ?_, ?_, lo, hi, up, by show r.given + 1 ≤ 100000; omega⟩
  · rcases mem_ins.mp hx with e | e
    · rw [e]
      show (0 : Int) ≤ r.given ∧ (r.given : Int) < ((r.given + 1 : Nat) : Int)
      omega
    · have := G.num x e
      show 0 ≤ x ∧ x < ((r.given + 1 : Nat) : Int)
      omega
  · show (ordIns r n).length ≤ 200
    rw [ins_len]
    omega
/-- pairs of the new order: both old; the old one ahead; the old one behind -/
theorem ins_pairs {r : R} {n : Nat} {T : Int → Int → Prop} (h1 : r.ord.Pairwise T) (h2 : ∀ x ∈ r.ord.take n, T x r.given) (h3 : ∀ y ∈ r.ord.drop n, T r.given y) : (ordIns r n).Pairwise T := by
  unfold ordIns
  rw [← List.take_append_drop n r.ord, List.pairwise_append] at h1
  obtain ⟨a1, a2, a3⟩ := h1
  rw [List.pairwise_append, List.pairwise_append]
  refine ⟨⟨a1, List.pairwise_singleton .., fun x hx y hy => ?_⟩, a2, fun x hx y hy => ?_⟩
  · rw [List.mem_singleton.mp hy]
    exact h2 x hx
  · rcases List.mem_append.mp hx with hx | hx
    · exact a3 x hx y hy
    · rw [List.mem_singleton.mp hx]
      exact h3 y hy
theorem good_mid {r : R} (G : Good r) {n : Nat} (hn : n ≤ r.ord.length) (h200 : r.ord.length < 200) (hg : r.given < 100000) (hgap : 2 ≤ behindM r n - aheadM r n) : Good (putR r n [((r.given : Int), (aheadM r n + behindM r n) / 2)]) := by
  have a1 := ahead_lo G hn
  have a2 := behind_hi G (n := n)
  have e0 : ∀ x ∈ r.ord, mkAll r.mrk [((r.given : Int), (aheadM r n + behindM r n) / 2)] x = r.mrk x := fun x hx => if_neg (G.ne hx)
  have e1 : mkAll r.mrk [((r.given : Int), (aheadM r n + behindM r n) / 2)] r.given = (aheadM r n + behindM r n) / 2 := if_pos rfl
  refine good_of G h200 hg (fun x hx => ?_) (fun x hx => ?_) (ins_pairs ?_ (fun x hx => ?_) fun y hy => ?_)
  · rcases mem_ins.mp hx with e | e
    · rw [e, e1]; omega
    · rw [e0 x e]; exact G.lo x e
  · rcases mem_ins.mp hx with e | e
    · rw [e, e1]; omega
    · rw [e0 x e]; exact G.hi x e
  · refine List.Pairwise.imp_of_mem ?_ G.up
    intro x y hx hy hxy
    rw [e0 x hx, e0 y hy]
    exact hxy
  · rw [e0 x (List.mem_of_mem_take hx), e1]
    have := take_le_ahead G hx hn
    omega
  · rw [e0 y (List.mem_of_mem_drop hy), e1]
    have := behind_le_drop G hy
    omega
theorem spread_get {l m : Nat} {s : Int} {i : Nat} (h : i < m) : (spreadL l s m)[i]? = some (s + 2 ^ l * (i : Int) / (m : Int)) := by
  unfold spreadL
  rw [List.getElem?_map, List.getElem?_range h]
  rfl
theorem spread_length (l : Nat) (s : Int) (m : Nat) : (spreadL l s m).length = m := by
  unfold spreadL
  rw [List.length_map, List.length_range]
theorem two_pow_cast (l : Nat) : ((2 : Int) ^ l) = ((2 ^ l : Nat) : Int) := by push_cast; rfl
theorem part_lt {l m i : Nat} (h : i < m) : 2 ^ l * (i : Int) / (m : Int) < 2 ^ l := by
  apply Int.ediv_lt_of_lt_mul (by omega)
  exact Int.mul_lt_mul_of_pos_left (by omega) (two_pow_pos l)
theorem part_nn (l m i : Nat) : 0 ≤ 2 ^ l * (i : Int) / (m : Int) := Int.ediv_nonneg (Int.mul_nonneg (Int.le_of_lt (two_pow_pos l)) (by omega)) (by omega)
theorem part_mono {l m i j : Nat} (h : 0 < m) (hm : m ≤ 2 ^ l) (hij : i < j) : 2 ^ l * (i : Int) / (m : Int) < 2 ^ l * (j : Int) / (m : Int) := by
  have hp := two_pow_pos l
  have h0 : (2 : Int) ^ l * ((i : Int) + 1) ≤ 2 ^ l * (j : Int) := Int.mul_le_mul_of_nonneg_left (by omega) (Int.le_of_lt hp)
  have h1 : (2 : Int) ^ l * (i : Int) + (m : Int) * 1 ≤ 2 ^ l * (j : Int) := by
    rw [Int.mul_add, Int.mul_one] at h0
    have e := two_pow_cast l
    omega
  have h2 : (2 ^ l * (i : Int) + (m : Int) * 1) / (m : Int) = 2 ^ l * (i : Int) / (m : Int) + 1 := Int.add_mul_ediv_left _ _ (by omega)
  have h3 := Int.ediv_le_ediv (show (0 : Int) < m by omega) h1
  omega
/-- what the spreading does to the marks of an order's things -/
structure Spreads (r : R) (n L : Nat) (f : Int) (g : Int → Int) : Prop where
  at_ : ∀ (i : Nat) (x : Int), (inside r n L f)[i]? = some x → g x = f + 2 ^ L * (i : Int) / ((inside r n L f).length : Int)
  off : ∀ x, ¬ x ∈ inside r n L f → g x = r.mrk x
theorem spreads_of {r : R} (G : Good r) {n L : Nat} {f : Int} : Spreads r n L f (mkAll r.mrk ((inside r n L f).zip (spreadL L f (inside r n L f).length))) := by
  have e : ((inside r n L f).zip (spreadL L f (inside r n L f).length)).map (·.1) = inside r n L f := List.map_fst_zip (by rw [spread_length]; exact Nat.le_refl _)
  have nd : (inside r n L f).Nodup := (ins_nd G).filter _
  refine ⟨fun i x hx => ?_, fun x hx => mkAll_not (by rw [e]; exact hx)⟩
  have hi := (List.getElem?_eq_some_iff.mp hx).1
  have hz : ((inside r n L f).zip (spreadL L f (inside r n L f).length))[i]? = some (x, f + 2 ^ L * (i : Int) / ((inside r n L f).length : Int)) := List.getElem?_zip_eq_some.mpr ⟨hx, spread_get hi⟩
  exact mkAll_at (by rw [e]; exact nd) hz
theorem lies_iff {r : R} {L : Nat} {f x : Int} : lies r L f x = true ↔ f ≤ r.mrk x ∧ r.mrk x < f + 2 ^ L := by
  unfold lies
  rw [Bool.and_eq_true, decide_eq_true_eq, decide_eq_true_eq]
theorem inside_iff {r : R} {n L : Nat} {f x : Int} : x ∈ inside r n L f ↔ x = (r.given : Int) ∨ (x ∈ r.ord ∧ f ≤ r.mrk x ∧ r.mrk x < f + 2 ^ L) := by
  unfold inside
  rw [List.mem_filter, mem_ins, Bool.or_eq_true, decide_eq_true_eq, lies_iff]
  constructor
  · rintro ⟨a, b⟩
    rcases a with a | a
    · exact .inl a
    · rcases b with b | b
      · exact .inl b
      · exact .inr ⟨a, b⟩
  · rintro (a | ⟨a, b⟩)
    · exact ⟨.inl a, .inl a⟩
    · exact ⟨.inr a, .inr b⟩
theorem baseM_top {m : Int} {L w : Nat} (h0 : 0 ≤ m) (h1 : m < 2 ^ w) (hL : L ≤ w) : baseM m L + 2 ^ L ≤ 2 ^ w := by
  have hp := two_pow_pos L
  have e : (2 : Int) ^ w = 2 ^ (w - L) * 2 ^ L := by rw [← Int.pow_add, Nat.sub_add_cancel hL]
  have h2 : m / 2 ^ L < 2 ^ (w - L) := by
    apply Int.ediv_lt_of_lt_mul hp
    rw [← e]
    exact h1
  have h3 : (m / 2 ^ L + 1) * 2 ^ L ≤ 2 ^ (w - L) * 2 ^ L := Int.mul_le_mul_of_nonneg_right (by omega) (Int.le_of_lt hp)
  rw [Int.add_mul, Int.one_mul, ← e] at h3
  exact h3
theorem spread_in {r : R} {n L : Nat} {f : Int} {g : Int → Int} (S : Spreads r n L f g) {x : Int} (h : x ∈ inside r n L f) : f ≤ g x ∧ g x < f + 2 ^ L := by
  obtain ⟨i, hi⟩ := List.mem_iff_getElem?.mp h
  have hl := (List.getElem?_eq_some_iff.mp hi).1
  rw [S.at_ i x hi]
  have h1 := part_nn L (inside r n L f).length i
  have h2 := part_lt (l := L) hl
  omega
theorem good_spread {r : R} (G : Good r) {n L : Nat} (hn : n ≤ r.ord.length) (h200 : r.ord.length < 200) (hg : r.given < 100000) (hL : L ≤ r.wide) (hfit : (inside r n L (baseM (max (aheadM r n) 0) L)).length ≤ 2 ^ L) :
    Good (putR r n ((inside r n L (baseM (max (aheadM r n) 0) L)).zip (spreadL L (baseM (max (aheadM r n) 0) L) (inside r n L (baseM (max (aheadM r n) 0) L)).length))) := by
  have S := spreads_of G (n := n) (L := L) (f := baseM (max (aheadM r n) 0) L)
  have hm0 : (0 : Int) ≤ max (aheadM r n) 0 := by omega
  have hm1 : max (aheadM r n) 0 < 2 ^ r.wide := by
    have := two_pow_pos r.wide
    have := ahead_lt G hn
    omega
  have f0 := baseM_lo (l := L) hm0
  have f1 := baseM_le (m := max (aheadM r n) 0) (l := L)
  have f2 := baseM_hi (m := max (aheadM r n) 0) (l := L)
  have f3 := baseM_top hm0 hm1 hL
  generalize hf : baseM (max (aheadM r n) 0) L = f at *
  generalize hgm : mkAll r.mrk ((inside r n L f).zip (spreadL L f (inside r n L f).length)) = g at *
  -- all in bounds
  have bounds : ∀ x ∈ ordIns r n, 0 ≤ g x ∧ g x < 2 ^ r.wide := fun x hx => by
    by_cases hi : x ∈ inside r n L f
    · have := spread_in S hi
      omega
    · rw [S.off x hi]
      rcases mem_ins.mp hx with e | e
      · exact absurd (inside_iff.mpr (.inl e)) hi
      · exact ⟨G.lo x e, G.hi x e⟩
  refine good_of G h200 hg (fun x hx => by rw [hgm]; exact (bounds x hx).1) (fun x hx => by rw [hgm]; exact (bounds x hx).2) ?_
  rw [hgm]
  -- within the stretch they rise
  have up1 : (inside r n L f).Pairwise fun x y => g x < g y := by
    rw [List.pairwise_iff_getElem]
    intro i j hi hj hij
    rw [S.at_ i _ (List.getElem?_eq_getElem hi), S.at_ j _ (List.getElem?_eq_getElem hj)]
    have := part_mono (l := L) (m := (inside r n L f).length) (i := i) (j := j) (by omega) hfit hij
    omega
  have up2 : (ordIns r n).Pairwise fun x y => x ∈ inside r n L f → y ∈ inside r n L f → g x < g y := by
    have h := List.pairwise_filter.mp (show ((ordIns r n).filter fun x => decide (x = (r.given : Int)) || lies r L f x).Pairwise (fun x y => g x < g y) from up1)
    refine h.imp fun {x y} q hx hy => q ?_ ?_
    · exact (List.mem_filter.mp (show x ∈ (ordIns r n).filter fun x => decide (x = (r.given : Int)) || lies r L f x from hx)).2
    · exact (List.mem_filter.mp (show y ∈ (ordIns r n).filter fun x => decide (x = (r.given : Int)) || lies r L f x from hy)).2
  -- how the old ones stand
  have up3 : (ordIns r n).Pairwise fun x y => (x ∈ r.ord ∧ y ∈ r.ord ∧ r.mrk x < r.mrk y) ∨ (y = (r.given : Int) ∧ (¬ x ∈ inside r n L f → r.mrk x < f)) ∨ (x = (r.given : Int) ∧ (¬ y ∈ inside r n L f → f + 2 ^ L ≤ r.mrk y)) := by
    refine ins_pairs ?_ (fun x hx => .inr (.inl ⟨rfl, fun hno => ?_⟩)) fun y hy => .inr (.inr ⟨rfl, fun hno => ?_⟩)
    · refine List.Pairwise.imp_of_mem ?_ G.up
      intro x y hx hy q
      exact .inl ⟨hx, hy, q⟩
    · have h1 := take_le_ahead G hx hn
      have hxo := List.mem_of_mem_take hx
      have h2 : ¬ (f ≤ r.mrk x ∧ r.mrk x < f + 2 ^ L) := fun z => hno (inside_iff.mpr (.inr ⟨hxo, z⟩))
      have h3 := G.lo x hxo
      omega
    · have h1 := behind_le_drop G hy
      have hyo := List.mem_of_mem_drop hy
      have h2 : ¬ (f ≤ r.mrk y ∧ r.mrk y < f + 2 ^ L) := fun z => hno (inside_iff.mpr (.inr ⟨hyo, z⟩))
      have h3 := G.lo y hyo
      have h4 := ahead_lt_behind G hn
      omega
  refine (up2.and up3).imp fun {x y} ⟨q2, q3⟩ => ?_
  by_cases hx : x ∈ inside r n L f
  · by_cases hy : y ∈ inside r n L f
    · exact q2 hx hy
    · have h1 := spread_in S hx
      rw [S.off y hy]
      rcases q3 with ⟨a, b, c⟩ | ⟨a, b⟩ | ⟨a, b⟩
      · have hx2 : f ≤ r.mrk x := by
          rcases inside_iff.mp hx with z | z
          · exact absurd z (G.ne a)
          · exact z.2.1
        have hy2 : ¬ (f ≤ r.mrk y ∧ r.mrk y < f + 2 ^ L) := fun z => hy (inside_iff.mpr (.inr ⟨b, z⟩))
        omega
      · exact absurd (inside_iff.mpr (.inl a)) hy
      · have := b hy
        omega
  · rw [S.off x hx]
    by_cases hy : y ∈ inside r n L f
    · have h1 := spread_in S hy
      rcases q3 with ⟨a, b, c⟩ | ⟨a, b⟩ | ⟨a, b⟩
      · have hy2 : r.mrk y < f + 2 ^ L := by
          rcases inside_iff.mp hy with z | z
          · exact absurd z (G.ne b)
          · exact z.2.2
        have hx2 : ¬ (f ≤ r.mrk x ∧ r.mrk x < f + 2 ^ L) := fun z => hx (inside_iff.mpr (.inr ⟨a, z⟩))
        omega
      · have := b hx
        omega
      · exact absurd (inside_iff.mpr (.inl a)) hx
    · rw [S.off y hy]
      rcases q3 with ⟨a, b, c⟩ | ⟨a, b⟩ | ⟨a, b⟩
      · exact c
      · exact absurd (inside_iff.mpr (.inl a)) hy
      · exact absurd (inside_iff.mpr (.inl a)) hx
theorem good_put {r : R} (G : Good r) {n : Nat} (hn : n ≤ r.ord.length) (h200 : r.ord.length < 200) (hg : r.given < 100000) {st : Option (Nat × Int)} {marked : List (Int × Int)} (h : marksFor r n = some (st, marked)) : Good (putR r n marked) := by
  unfold marksFor at h
  split at h
  · rename_i hgap
    cases h
    exact good_mid G hn h200 hg hgap
  · split at h
    · cases h
    · rename_i L hL
      cases h
      obtain ⟨h1, h2, _⟩ := findL_fits hL
      refine good_spread G hn h200 hg h2 ?_
      rw [inside_len G]
      exact fits_le h1
/-- few enough for the whole row: never refused -/
theorem never_full {r : R} (G : Good r) {n : Nat} (hw : 20 ≤ r.wide) : marksFor r n ≠ none := by
  intro h
  unfold marksFor at h
  split at h
  · cases h
  · split at h
    · rename_i hL
      unfold findL at hL
      rw [List.find?_eq_none] at hL
      have h1 := hL r.wide (List.mem_range.mpr (Nat.lt_succ_self _))
      have hc : cnt r (max (aheadM r n) 0) r.wide ≤ 200 := Nat.le_trans (List.length_filter_le ..) G.len
      apply h1
      unfold fits
      rw [Bool.not_eq_true', decide_eq_false_iff_not]
      obtain ⟨k, hk⟩ : ∃ k, r.wide = 20 + k := ⟨r.wide - 20, by omega⟩
      rw [hk] at hc ⊢
      generalize cnt r (max (aheadM r n) 0) (20 + k) = c at hc ⊢
      have e4 : (4 : Int) ^ (20 + k) = ((4 ^ 20 * 4 ^ k : Nat) : Int) := by rw [Int.pow_add, Int.natCast_mul, Int.natCast_pow, Int.natCast_pow]; rfl
      have e3 : (3 : Int) ^ (20 + k) = ((3 ^ 20 * 3 ^ k : Nat) : Int) := by rw [Int.pow_add, Int.natCast_mul, Int.natCast_pow, Int.natCast_pow]; rfl
      rw [e4, e3]
      have h5 : (3 : Nat) ^ k ≤ 4 ^ k := Nat.pow_le_pow_left (by decide) k
      have h6 : (c + 1) * (3 ^ 20 * 3 ^ k) ≤ 4 ^ 20 * 4 ^ k := by
        calc (c + 1) * (3 ^ 20 * 3 ^ k) ≤ 201 * (3 ^ 20 * 3 ^ k) := Nat.mul_le_mul_right _ (by omega)
          _ = (201 * 3 ^ 20) * 3 ^ k := by rw [Nat.mul_assoc]
          _ ≤ 4 ^ 20 * 3 ^ k := Nat.mul_le_mul_right _ (by decide)
          _ ≤ 4 ^ 20 * 4 ^ k := Nat.mul_le_mul_left _ h5
      have h7 : ((c : Int) + 1) * ((3 ^ 20 * 3 ^ k : Nat) : Int) = (((c + 1) * (3 ^ 20 * 3 ^ k) : Nat) : Int) := by rw [Int.natCast_mul (c + 1)]; rfl
      rw [h7]
      omega
    · cases h

section
variable {P : Program} {w : World} {K : PySem.W.Frag} {mg : Str → Option Value} {base : Heap} {C CF : Addr}
def spCheck : Sp := fun vs H Q _ => ∃ (v lo hi : Int), vs = [.int v, .int lo, .int hi] ∧ lo ≤ v ∧ v ≤ hi ∧ Q .non H
theorem ok_check_within (T : Txt K mg C CF) : Cal P w K mg base 1 "check_within" spCheck [] := by
  obtain ⟨f, fd, F, hm, b⟩ := T.d_check_within.ex
  refine ⟨f, fd, _, _, F.ok sc_check_within (fun vs H Q E h => ?_) (fun cdv A outer s H vs Q E hr h => ?_), hm, F.kp, b, .nil⟩
  · obtain ⟨_, _, _, rfl, _⟩ := h; rfl
  · obtain ⟨v, lo, hi, rfl, h1, h2, k⟩ := h
    refine ⟨_, (pss_one (ps_if (PW.pt (pw_or (pt_cmpR op_notTyB (pe_callTy call_type1 (by rfl) T.n_type (by decide +kernel) (pa_cons (pv 0) pa_nil)) (pe_bltn (v := .ty "int") (by rfl) T.n_int (by decide +kernel) rfl) (nomark _)) (pw_or (pt_cmpR op_lt (pv 0) (pv 1) (nomark _)) (pw_or1 (pt_cmpR op_gt (pv 0) (pv 2) (nomark _)))))) (pss_one ps_never) pss_nil)), ?_⟩
    refine ⟨_, rfl, _, _, rfl, .int _, _, _, rfl, rfl, _, rfl, ?_⟩
    refine iteNS rfl ?_
    refine ⟨_, rfl, _, rfl, _, _, rfl, rfl, _, rfl, ?_⟩
    refine iteFd (by omega) ?_
    refine ⟨_, rfl, _, rfl, _, _, rfl, rfl, _, rfl, ?_⟩
    exact iteFd (by omega) k
def spPower : Sp := fun vs H Q _ => ∃ (b : Int) (n : Nat), vs = [.int b, .int (n : Int)] ∧ 0 < b ∧ b ≤ 4 ∧ n ≤ 60 ∧ Q (.int (b ^ n)) H
theorem pow_bound {b : Int} {n : Nat} (h0 : 0 < b) (h4 : b ≤ 4) (hn : n ≤ 60) : (b ^ n).natAbs < 2 ^ 130 := by
  rw [Int.natAbs_pow]
  have h1 : b.natAbs ≤ 4 := by omega
  have h2 : b.natAbs ^ n ≤ 4 ^ n := Nat.pow_le_pow_left h1 n
  have h3 : 4 ^ n ≤ 4 ^ 60 := Nat.pow_le_pow_right (by decide) hn
  exact Nat.lt_of_le_of_lt (Nat.le_trans h2 h3) (by decide)
theorem ok_power (T : Txt K mg C CF) : Cal P w K mg base 1 "power" spPower [] := by
  obtain ⟨f, fd, F, hm, b⟩ := T.d_power.ex
  refine ⟨f, fd, _, _, F.ok sc_power (fun vs H Q E h => ?_) (fun cdv A outer s H vs Q E hr h => ?_), hm, F.kp, b, .nil⟩
  · obtain ⟨_, _, rfl, _⟩ := h; rfl
  · obtain ⟨b, n, rfl, h0, h4, hn, k⟩ := h
    refine ⟨_, (pss_cons (ps_set (i := 2) sc_power.nd rfl (Or.inl rfl) pe_int)
      (pss_cons (ps_for PassesOwn.never rfl (pi_range1 (by rfl) T.n_range (pa_cons (pv 1) pa_nil)) (pg_name (i := 3) sc_power.nd rfl (Or.inl rfl))
        (pss_one (ps_set (i := 2) sc_power.nd rfl (Or.inl rfl) (pe_op op_mulW (pv 2) (pv 0)))))
      (pss_one (ps_ret (pv 2))))), ?_⟩
    refine ⟨_, rfl, _, rfl, by omega, by omega, for_range (lo := 0) (n := ((n : Int)).toNat) (fun i σ H' => H' = H ∧ ∃ z, σ = [some (.int b), some (.int (n : Int)), some (.int (b ^ i)), z]) ⟨rfl, none, by rw [Int.pow_zero]; rfl⟩ ?_ ?_⟩
    · rintro i σ H' hi ⟨rfl, z, rfl⟩
      have hi' : i < n := by omega
      refine ⟨_, rfl, _, rfl, _, _, rfl, rfl, wide_mul (pow_bound h0 h4 (by omega : i ≤ 60)) (show b.natAbs < 2 ^ 3 by omega) (by decide) (by decide) (by decide), rfl, some (.int (0 + (i : Int))), ?_⟩
      rw [Int.pow_succ]
      rfl
    · rintro σ H' ⟨rfl, z, rfl⟩
      refine ⟨_, rfl, ?_⟩
      rw [Int.toNat_natCast]
      exact k
def spToo : Sp := fun vs H Q _ => ∃ (l : Nat) (m : Int), vs = [.int (l : Int), .int m] ∧ l ≤ 60 ∧ 0 ≤ m ∧ m ≤ 2 ^ 60 ∧ Q (.bl (decide (4 ^ l < m * 3 ^ l))) H
theorem ok_is_too_full (T : Txt K mg C CF) (G_check_within : Cal P w K mg base 1 "check_within" spCheck []) (G_power : Cal P w K mg base 1 "power" spPower []) : Cal P w K mg base 2 "is_too_full" spToo [] := by
  obtain ⟨f, fd, F, hm, b⟩ := T.d_is_too_full.ex
  refine ⟨f, fd, _, _, F.ok sc_is_too_full (fun vs H Q E h => ?_) (fun cdv A outer s H vs Q E hr h => ?_), hm, F.kp, b, .nil⟩
  · obtain ⟨_, _, rfl, _⟩ := h; rfl
  · obtain ⟨l, m, rfl, hl, h0, h1, k⟩ := h
    refine ⟨_, (pss_cons (ps_expr (pe_c G_check_within hr (by decide) rfl (pa_cons (pv 0) (pa_cons pe_int (pa_cons (pe_gc (by rfl) T.g_MOST_LEVEL) pa_nil)))))
      (pss_cons (ps_expr (pe_c G_check_within hr (by decide) rfl (pa_cons (pv 1) (pa_cons pe_int (pa_cons (pe_op op_shl pe_int (pe_gc (by rfl) T.g_MOST_LEVEL)) pa_nil)))))
      (pss_one (ps_ret (pe_cmpR op_gt (pe_op op_mulW (pv 1) (pe_c G_power hr (by decide) rfl (pa_cons pe_int (pa_cons (pv 0) pa_nil)))) (pe_c G_power hr (by decide) rfl (pa_cons pe_int (pa_cons (pv 0) pa_nil))) (nomark _)))))), ?_⟩
    refine ⟨_, rfl, _, _, _, rfl, by omega, by omega, ?_⟩
    refine ⟨_, rfl, _, _, rfl, rfl, ⟨by decide, by decide, by decide⟩, _, _, _, rfl, by omega, h1, ?_⟩
    refine ⟨_, rfl, _, rfl, 3, l, rfl, by decide, by decide, hl, _, _, rfl, rfl, wide_mul (show m.natAbs < 2 ^ 61 by omega) (pow_bound (b := 3) (by decide) (by decide) hl) (by decide) (by decide) (by decide), ?_⟩
    exact ⟨_, rfl, 4, l, rfl, by decide, by decide, hl, _, _, rfl, rfl, k⟩
theorem shl_one (l : Nat) : (1 : Int) * 2 ^ (l : Int).toNat = 2 ^ l := by rw [Int.toNat_natCast, Int.one_mul]
def spAt : Sp := fun vs H Q _ => ∃ (l : Nat) (m : Int), vs = [.int (l : Int), .int m] ∧ l ≤ 60 ∧ 0 ≤ m ∧ m < 2 ^ 60 ∧ Q (.int (m / 2 ^ l * 2 ^ l)) H
theorem ok_stretch_at (T : Txt K mg C CF) (G_check_within : Cal P w K mg base 1 "check_within" spCheck []) : Cal P w K mg base 2 "stretch_at" spAt [] := by
  obtain ⟨f, fd, F, hm, b⟩ := T.d_stretch_at.ex
  refine ⟨f, fd, _, _, F.ok sc_stretch_at (fun vs H Q E h => ?_) (fun cdv A outer s H vs Q E hr h => ?_), hm, F.kp, b, .nil⟩
  · obtain ⟨_, _, rfl, _⟩ := h; rfl
  · obtain ⟨l, m, rfl, hl, h0, h1, k⟩ := h
    refine ⟨_, (pss_cons (ps_expr (pe_c G_check_within hr (by decide) rfl (pa_cons (pv 0) (pa_cons pe_int (pa_cons (pe_gc (by rfl) T.g_MOST_LEVEL) pa_nil)))))
      (pss_cons (ps_expr (pe_c G_check_within hr (by decide) rfl (pa_cons (pv 1) (pa_cons pe_int (pa_cons (pe_op op_sub (pe_op op_shl pe_int (pe_gc (by rfl) T.g_MOST_LEVEL)) pe_int) pa_nil)))))
      (pss_cons (ps_set (i := 2) sc_stretch_at.nd rfl (Or.inl rfl) (pe_op op_shl pe_int (pv 0)))
      (pss_one (ps_ret (pe_op op_mulW (pe_op op_fdivW (pv 1) (pv 2)) (pv 2))))))), ?_⟩
    refine ⟨_, rfl, _, _, _, rfl, by omega, by omega, ?_⟩
    refine ⟨_, rfl, _, _, rfl, rfl, ⟨by decide, by decide, by decide⟩, _, _, rfl, rfl, _, _, _, rfl, by omega, by show m ≤ 1 * 2 ^ 60 - 1; omega, ?_⟩
    refine ⟨_, rfl, _, _, rfl, rfl, ⟨by omega, by omega, by decide⟩, ?_⟩
    dsimp only
    rw [shl_one]
    have hp := two_pow_pos l
    have hq : 0 ≤ m / 2 ^ l := Int.ediv_nonneg h0 (Int.le_of_lt hp)
    have hq2 : m / 2 ^ l ≤ m := Int.ediv_le_self _ h0
    refine ⟨_, rfl, _, rfl, _, _, rfl, rfl, wide_div hp (two_pow_lt hl) (by decide) (by decide), _, rfl, _, _, rfl, rfl, wide_mul (show (m / 2 ^ l).natAbs < 2 ^ 61 by omega) (two_pow_lt hl) (by decide) (by decide) (by decide), k⟩

def spSpread : Sp := fun vs H Q _ => ∃ (l : Nat) (s : Int) (m : Nat), vs = [.int (l : Int), .int s, .int (m : Int)] ∧ l ≤ 60 ∧ 0 ≤ s ∧ s < 2 ^ 60 ∧ m ≤ 2 ^ l ∧ m ≤ 1024 ∧ ∀ p, H p = none → Q (.ref p) (upd H p (.lst ((spreadL l s m).map V.int)))
theorem ok_spread (T : Txt K mg C CF) (G_check_within : Cal P w K mg base 1 "check_within" spCheck []) : Cal P w K mg base 2 "spread" spSpread [] := by
  obtain ⟨f, fd, F, hm, b⟩ := T.d_spread.ex
  refine ⟨f, fd, _, _, F.ok sc_spread (fun vs H Q E h => ?_) (fun cdv A outer s H vs Q E hr h => ?_), hm, F.kp, b, .nil⟩
  · obtain ⟨_, _, _, rfl, _⟩ := h; rfl
  · obtain ⟨l, st, m, rfl, hl, h0, h1, hm1, hm2, k⟩ := h
    refine ⟨_, (pss_cons (ps_expr (pe_c G_check_within hr (by decide) rfl (pa_cons (pv 0) (pa_cons pe_int (pa_cons (pe_gc (by rfl) T.g_MOST_LEVEL) pa_nil)))))
      (pss_cons (ps_expr (pe_c G_check_within hr (by decide) rfl (pa_cons (pv 1) (pa_cons pe_int (pa_cons (pe_op op_sub (pe_op op_shl pe_int (pe_gc (by rfl) T.g_MOST_LEVEL)) pe_int) pa_nil)))))
      (pss_cons (ps_set (i := 3) sc_spread.nd rfl (Or.inr rfl) (pe_op op_shl pe_int (pv 0)))
      (pss_cons (ps_expr (pe_c G_check_within hr (by decide) rfl (pa_cons (pv 2) (pa_cons pe_int (pa_cons (pe_callB (id := "min") (call_min2 rfl) (by rfl) T.n_min (by decide +kernel) (pa_cons (pv 3) (pa_cons (pe_gc (by rfl) T.g_MOST_SPREAD) pa_nil))) pa_nil)))))
      (pss_one (ps_ret (pe_lc (own := [("place", 4)]) (g := (gName 4)) (by rfl) sc_spread.nd (pi_range1 (by rfl) T.n_range (pa_cons (pv 2) pa_nil)) (blkOk_by (own := [("place", 4)]) (N := ["level", "start", "many", "size", "place"]) (sc := defScope s_spread) (by decide +kernel)) (fun _ _ _ _ _ => (pg_name (i := 4) sc_spread.nd rfl (Or.inl rfl))) (fun _ _ _ _ _ => pts_nil) (fun _ _ _ _ _ => (pe_op op_add (pv 1) (pe_op op_fdivW (pe_op op_mulW (pv 3) (pv 4)) (pv 2))))))))))), ?_⟩
    refine ⟨_, rfl, _, _, _, rfl, by omega, by omega, ?_⟩
    refine ⟨_, rfl, _, _, rfl, rfl, ⟨by decide, by decide, by decide⟩, _, _, rfl, rfl, _, _, _, rfl, by omega, by show st ≤ 1 * 2 ^ 60 - 1; omega, ?_⟩
    refine ⟨_, rfl, _, _, rfl, rfl, ⟨by omega, by omega, by decide⟩, ?_⟩
    dsimp only
    rw [shl_one]
    have hp := two_pow_pos l
    have hm3 : (m : Int) ≤ 2 ^ l := by
      have h3 : ((2 : Int) ^ l) = ((2 ^ l : Nat) : Int) := by push_cast; rfl
      rw [h3]
      exact_mod_cast hm1
    refine ⟨_, rfl, _, rfl, _, _, rfl, _, _, _, rfl, by omega, ?_, ?_⟩
    · split <;> omega
    refine ⟨_, rfl, _, rfl, by omega, by omega, fun D hD => ?_⟩
    refine lc_range (lo := 0) (n := ((m : Int)).toNat) (fun i H' => H' = upd H D (.lst (((List.range i).map fun (i : Nat) => st + 2 ^ l * (i : Int) / (m : Int)).map V.int))) rfl ?_ ?_
    · rintro i H' hi rfl
      have hi' : i < m := by omega
      refine ⟨rfl, _, rfl, _, rfl, _, rfl, _, _, rfl, rfl, ?_, _, rfl, _, _, rfl, rfl, ?_, _, _, rfl, rfl, ?_⟩
      · exact wide_mul (two_pow_lt hl) (show (0 + (i : Int)).natAbs < 2 ^ 20 by omega) (by decide) (by decide) (by decide)
      · exact wide_div (by omega) (show (m : Int).natAbs < 2 ^ 20 by omega) (by decide) (by decide)
      · refine ⟨_, upd_same, ?_, ?_⟩
        · refine smallL ?_
          rw [List.length_map, List.length_map, List.length_range]
          omega
        · rw [upd_upd, List.range_succ, List.map_append, List.map_append, Int.zero_add]
          rfl
    · rintro H' rfl
      rw [Int.toNat_natCast]
      exact k D hD

def spChk (C : Addr) : Sp := fun vs H Q _ => ∃ (p l d : Addr) (r : R) (x : Int), vs = [.ref p, .int x] ∧ RowAt C H p l d r ∧ x ∈ r.ord ∧ Q .non H
theorem ok_chk (T : Txt K mg C CF) : Met P w K mg base 1 C "_check_thing" (spChk C) [] := by
  obtain ⟨f, fd, ds, F, hm, b, dv⟩ := T.m__check_thing.ex
  refine ⟨f, fd, _, _, T.cl, hm, F.ok sc_Row__check_thing (fun vs H Q E h => ?_) (fun cdv A outer s H vs Q E hr h => ?_), b, dv⟩
  · obtain ⟨_, _, _, _, _, rfl, _⟩ := h; rfl
  · obtain ⟨p, l, d, r, x, rfl, S, hx, k⟩ := h
    obtain ⟨⟨dx, ho⟩, hl, kvs, hd, hn, D⟩ := id S
    refine ⟨_, (pss_one (ps_if (PW.pt (pw_or (pt_cmpR op_notTyB (pe_callTy call_type1 (by rfl) T.n_type (by decide +kernel) (pa_cons (pv 1) pa_nil)) (pe_bltn (v := .ty "int") (by rfl) T.n_int (by decide +kernel) rfl) (nomark _)) (pw_or1 (pt_cmp (pc_dnotin (hu_of hr) (pv 1) (pe_fld (pv 0) rfl)))))) (pss_one ps_never) pss_nil)), ?_⟩
    refine ⟨_, rfl, _, _, rfl, .int _, _, _, rfl, rfl, _, rfl, ?_⟩
    refine iteNS rfl ?_
    refine ⟨_, rfl, _, rfl, p, C, dx, _, _, rfl, ho, T.cl, T.nM, fl_marks .., d, _, rfl, DGet.k (k := Sum.inl x) hd, _, rfl, ?_⟩
    rw [D.get, if_pos hx]
    exact iteF k
def spPlace (C : Addr) : Sp := fun vs H Q _ => ∃ (p l d : Addr) (r : R) (o : Option Int), vs = [.ref p, oneV o] ∧ RowAt C H p l d r ∧ (∀ x, o = some x → x ∈ r.ord) ∧ Q (.int (placeOf r o : Nat)) H
theorem idx_ok {xs : List Int} {x : Int} (h : x ∈ xs) : (xs.map V.int)[xs.idxOf x]? = some (.int x) ∧ ∀ (m : Nat) (z : V), m < xs.idxOf x → (xs.map V.int)[m]? = some z → eqV z (.int x) = false := by
  have hlt := List.idxOf_lt_length_of_mem h
  constructor
  · rw [List.getElem?_map, List.getElem?_eq_getElem hlt, List.getElem_idxOf]
    rfl
  · intro m z hm hz
    have hml : m < xs.length := Nat.lt_trans hm hlt
    rw [List.getElem?_map, List.getElem?_eq_getElem hml] at hz
    have e : V.int xs[m] = z := Option.some.inj hz
    rw [← e]
    show (xs[m] == x) = false
    have := List.not_of_lt_findIdx (p := (· == x)) (xs := xs) hm
    simpa using this
theorem flat_ints (xs : List Int) : (xs.map V.int).all flatV = true := by
  rw [List.all_eq_true]
  intro y hy
  obtain ⟨i, _, rfl⟩ := List.mem_map.mp hy
  rfl
theorem ok_place (T : Txt K mg C CF) (M__check_thing : Met P w K mg base 1 C "_check_thing" (spChk C) []) : Met P w K mg base 2 C "_place_behind" (spPlace C) [] := by
  obtain ⟨f, fd, ds, F, hm, b, dv⟩ := T.m__place_behind.ex
  refine ⟨f, fd, _, _, T.cl, hm, F.ok sc_Row__place_behind (fun vs H Q E h => ?_) (fun cdv A outer s H vs Q E hr h => ?_), b, dv⟩
  · obtain ⟨_, _, _, _, _, rfl, _⟩ := h; rfl
  · obtain ⟨p, l, d, r, o, rfl, S, hx, k⟩ := h
    obtain ⟨⟨dx, ho⟩, hl, kvs, hd, hn, D⟩ := id S
    refine ⟨_, (pss_cons (ps_if (pt_cmpR op_isN (pv 1) pe_non (nomark _)) (pss_one (ps_ret pe_int)) pss_nil)
      (pss_cons (ps_expr (pe_mt M__check_thing hr (by decide) (pv 0) (pa_cons (pv 1) pa_nil)))
      (pss_one (ps_ret (pe_op op_add (pe_bm PySem.F.plainAttrs_list PySem.F.slot_list_index PySem.F.type_list_index mt_index (pe_fld (pv 0) rfl) (pa_cons (pv 1) pa_nil)) pe_int))))), ?_⟩
    cases o with
    | none =>
      refine ⟨_, rfl, rfl, _, rfl, ?_⟩
      exact iteT k
    | some x =>
      have hx' := hx x rfl
      obtain ⟨i1, i2⟩ := idx_ok hx'
      refine ⟨_, rfl, rfl, _, rfl, ?_⟩
      refine iteFd (by intro z; cases z) ?_
      refine ⟨_, rfl, p, dx, _, rfl, ho, rfl, _, rfl, p, l, d, r, x, rfl, S, hx', ?_⟩
      refine ⟨_, rfl, p, C, dx, _, _, rfl, ho, T.cl, T.nO, fl_order .., .inl ⟨rfl, _, SqL.of hl⟩, _, rfl, l, _, _, _, _, rfl, rfl, SqL.of hl, rfl, flat_ints _, i1, beq_self_eq_true x, i2, _, _, rfl, rfl, ?_⟩
      exact k
/-! ### the marks on both sides -/
def spAround (C : Addr) : Sp := fun vs H Q _ => ∃ (p l d : Addr) (r : R) (n : Nat), vs = [.ref p, .int (n : Int)] ∧ RowAt C H p l d r ∧ Good r ∧ n ≤ r.ord.length ∧ ∀ t, H t = none → Q (.ref t) (upd H t (.tup [.int (aheadM r n), .int (behindM r n)]))
theorem getD_at {xs : List Int} {i : Nat} (h : i < xs.length) : (xs.map V.int)[i]? = some (.int (xs.getD i 0)) := by
  rw [List.getElem?_map, List.getElem?_eq_getElem h, List.getD_eq_getElem?_getD, List.getElem?_eq_getElem h]
  rfl
theorem ok_around (T : Txt K mg C CF) : Met P w K mg base 1 C "_marks_around" (spAround C) [] := by
  obtain ⟨f, fd, ds, F, hm, b, dv⟩ := T.m__marks_around.ex
  refine ⟨f, fd, _, _, T.cl, hm, F.ok sc_Row__marks_around (fun vs H Q E h => ?_) (fun cdv A outer s H vs Q E hr h => ?_), b, dv⟩
  · obtain ⟨_, _, _, _, _, rfl, _⟩ := h; rfl
  · obtain ⟨p, l, d, r, n, rfl, S, GR, hn, k⟩ := h
    obtain ⟨⟨dx, ho⟩, hl, kvs, hd, hkn, D⟩ := id S
    have h60 := GR.w60
    refine ⟨_, (pss_cons (ps_set (i := 2) sc_Row__marks_around.nd rfl (Or.inl rfl) (pe_un un_neg pe_int))
      (pss_cons (ps_if (pt_cmpR op_gt (pv 1) pe_int (nomark _)) (pss_one (ps_set (i := 2) sc_Row__marks_around.nd rfl (Or.inl rfl) (pe_dget (by exact hu_of hr) (pe_fld (pv 0) rfl) (pe_ix ix_list (pe_fld (pv 0) rfl) (pe_op op_sub (pv 1) pe_int) (fun _ _ => rfl)) (fun _ _ => rfl)))) pss_nil)
      (pss_cons (ps_set (i := 3) sc_Row__marks_around.nd rfl (Or.inl rfl) (pe_op op_shl pe_int (pe_fld (pv 0) rfl)))
      (pss_cons (ps_if (pt_cmpR op_lt (pv 1) (pe_callB (id := "len") call_len_seq (by rfl) T.n_len (by decide +kernel) (pa_cons (pe_fld (pv 0) rfl) pa_nil)) (nomark _)) (pss_one (ps_set (i := 3) sc_Row__marks_around.nd rfl (Or.inl rfl) (pe_dget (by exact hu_of hr) (pe_fld (pv 0) rfl) (pe_ix ix_list (pe_fld (pv 0) rfl) (pv 1) (fun _ _ => rfl)) (fun _ _ => rfl)))) pss_nil)
      (pss_one (ps_ret (pe_tup (pa_cons (pv 2) (pa_cons (pv 3) pa_nil))))))))), ?_⟩
    -- the second half, from what stands ahead
    have rest : ∀ z, tSeq (tAsg (tOp (rI CPow fun i j => V.int (i * 2 ^ j.toNat)) (tC (.int 1)) (tFld K (tVar 0) "_wide")) (gName 3)) (tSeq (tIfS (tTest (tOp (rI0 fun i j => V.bl (decide (i < j))) (tVar 1) (tCB (fun xs H Q => ∃ p ys, xs = [V.ref p] ∧ (SqL K H p ys ∨ SqT K H p ys) ∧ Q (.int ys.length) H) (tCons (tFld K (tVar 0) "_order") tNil))))
        (tAsg (tDGet (tFld K (tVar 0) "_marks") (tOp (rIxL K) (tFld K (tVar 0) "_order") (tVar 1))) (gName 3)) tNext) (tRet (tTup (tCons (tVar 2) (tCons (tVar 3) tNil))))) { nx := fun _ H' => Q .non H', rt := Q } [some (.ref p), some (.int (n : Int)), some (.int (aheadM r n)), z] H := by
      intro z
      refine ⟨_, rfl, p, C, dx, _, _, rfl, ho, T.cl, T.nW, fl_wide .., _, _, rfl, rfl, ⟨by omega, by omega, by decide⟩, ?_⟩
      refine ⟨_, rfl, _, rfl, p, C, dx, _, _, rfl, ho, T.cl, T.nO, fl_order .., l, _, rfl, .inl (SqL.of hl), _, _, rfl, rfl, _, rfl, ?_⟩
      rw [List.length_map]
      refine ite2d (fun hlt => ?_) (fun hge => ?_)
      · have hlt' : n < r.ord.length := by omega
        have e1 : valV kvs (Sum.inl (r.ord.getD n 0)) = some (.int (r.mrk (r.ord.getD n 0))) := by rw [D.get, if_pos (getD_mem hlt')]
        refine ⟨_, rfl, p, C, dx, _, _, rfl, ho, T.cl, T.nM, fl_marks .., _, rfl, p, C, dx, _, _, rfl, ho, T.cl, T.nO, fl_order .., _, rfl, l, _, _, _, rfl, rfl, SqL.of hl, atI_nat (getD_at hlt'), d, _, rfl, by rw [← e1]; exact DGet.k (k := Sum.inl (r.ord.getD n 0)) hd, ?_⟩
        refine ⟨_, rfl, _, rfl, small (by show 2 ≤ 100000; decide), fun t ht => ?_⟩
        have e2 : behindM r n = r.mrk (r.ord.getD n 0) := if_pos hlt'
        rw [← e2]
        exact k t ht
      · have hge' : ¬ n < r.ord.length := by omega
        refine ⟨_, rfl, _, rfl, small (by show 2 ≤ 100000; decide), fun t ht => ?_⟩
        have e2 : behindM r n = 2 ^ r.wide := if_neg hge'
        have e3 : (1 : Int) * 2 ^ ((r.wide : Int)).toNat = behindM r n := by rw [shl_one, e2]
        dsimp only
        rw [e3]
        exact k t ht
    refine ⟨_, rfl, ?_⟩
    refine ⟨_, rfl, _, _, rfl, rfl, _, rfl, ?_⟩
    refine ite2d (fun hpos => ?_) (fun hz => ?_)
    · obtain ⟨m, rfl⟩ : ∃ m, n = m + 1 := ⟨n - 1, by omega⟩
      have hlt' : m < r.ord.length := by omega
      have e1 : valV kvs (Sum.inl (r.ord.getD m 0)) = some (.int (r.mrk (r.ord.getD m 0))) := by rw [D.get, if_pos (getD_mem hlt')]
      refine ⟨_, rfl, p, C, dx, _, _, rfl, ho, T.cl, T.nM, fl_marks .., _, rfl, p, C, dx, _, _, rfl, ho, T.cl, T.nO, fl_order .., _, rfl, _, _, rfl, rfl, l, _, _, _, rfl, rfl, SqL.of hl, by rw [show ((m + 1 : Nat) : Int) - 1 = (m : Int) by omega]; exact atI_nat (getD_at hlt'), d, _, rfl, by rw [← e1]; exact DGet.k (k := Sum.inl (r.ord.getD m 0)) hd, ?_⟩
      exact rest _
    · obtain rfl : n = 0 := by omega
      exact rest _
/-! ### does a thing lie in a stretch -/
def spLies (C : Addr) : Sp := fun vs H Q _ => ∃ (p l d : Addr) (r : R) (x : Int) (L : Nat) (f : Int), vs = [.ref p, .int x, .int (L : Int), .int f] ∧ RowAt C H p l d r ∧ x ∈ r.ord ∧ L ≤ 60 ∧ Q (.bl (lies r L f x)) H
theorem ok_lies (T : Txt K mg C CF) : Met P w K mg base 1 C "_lies_in" (spLies C) [] := by
  obtain ⟨f, fd, ds, F, hm, b, dv⟩ := T.m__lies_in.ex
  refine ⟨f, fd, _, _, T.cl, hm, F.ok sc_Row__lies_in (fun vs H Q E h => ?_) (fun cdv A outer s H vs Q E hr h => ?_), b, dv⟩
  · obtain ⟨_, _, _, _, _, _, _, rfl, _⟩ := h; rfl
  · obtain ⟨p, l, d, r, x, L, f, rfl, S, hx, hL, k⟩ := h
    obtain ⟨⟨dx, ho⟩, hl, kvs, hd, hkn, D⟩ := id S
    refine ⟨_, (pss_cons (ps_set (i := 4) sc_Row__lies_in.nd rfl (Or.inl rfl) (pe_dget (by exact hu_of hr) (pe_fld (pv 0) rfl) (pv 1) (fun _ _ => rfl)))
      (pss_one (ps_ret (pe_chain op_le op_lt (pv 3) (pv 4) (pe_op op_add (pv 3) (pe_op op_shl pe_int (pv 2))))))), ?_⟩
    have e1 : valV kvs (Sum.inl x) = some (.int (r.mrk x)) := by rw [D.get, if_pos hx]
    refine ⟨_, rfl, p, C, dx, _, _, rfl, ho, T.cl, T.nM, fl_marks .., _, rfl, d, _, rfl, by rw [← e1]; exact DGet.k (k := Sum.inl x) hd, ?_⟩
    refine ⟨_, rfl, _, rfl, _, _, rfl, rfl, _, rfl, ?_⟩
    unfold lies at k
    refine ite2d (fun h1 => ?_) (fun h1 => ?_)
    · rw [decide_eq_true h1, Bool.true_and] at k
      refine ⟨_, rfl, _, rfl, _, _, rfl, rfl, ⟨by omega, by omega, by decide⟩, _, _, rfl, rfl, _, _, rfl, rfl, ?_⟩
      dsimp only
      rw [shl_one]
      exact k
    · rw [decide_eq_false h1, Bool.false_and] at k
      exact k
/-! ### the least stretch that bears one more -/
def spSeek (C CF : Addr) : Sp := fun vs H Q E => ∃ (p l d : Addr) (r : R) (m : Int), vs = [.ref p, .int m] ∧ RowAt C H p l d r ∧ Good r ∧ 0 ≤ m ∧ m < 2 ^ r.wide ∧
  (findL r m = none → ∀ H', Same H H' → E (.ref CF) none H') ∧ (∀ L, findL r m = some L → ∀ H' t, Same H H' → H t = none → H' t = some (.tup [.int (L : Int), .int (baseM m L)]) → Q (.ref t) H')
theorem filt_yes {α : Type} {f : α → Bool} {xs : List α} {i : Nat} {x : α} (h : xs[i]? = some x) (hf : f x = true) : (xs.take (i + 1)).filter f = (xs.take i).filter f ++ [x] := by
  rw [List.take_add_one, h]
  simp [hf]
theorem filt_no {α : Type} {f : α → Bool} {xs : List α} {i : Nat} {x : α} (h : xs[i]? = some x) (hf : f x = false) : (xs.take (i + 1)).filter f = (xs.take i).filter f := by
  rw [List.take_add_one, h]
  simp [hf]
theorem filt_len {α : Type} (f : α → Bool) (xs : List α) (i : Nat) : ((xs.take i).filter f).length ≤ xs.length := Nat.le_trans (List.length_filter_le ..) (List.length_take_le' ..)
theorem find_step {p : Nat → Bool} {n i : Nat} (h : ∀ j, j < i → p j = false) (hi : i < n) (hp : p i = true) : (List.range n).find? p = some i := by
  rw [List.find?_range_eq_some]
  exact ⟨hp, List.mem_range.mpr hi, fun j hj => by simp [h j hj]⟩
theorem find_none {p : Nat → Bool} {n : Nat} (h : ∀ j, j < n → p j = false) : (List.range n).find? p = none := by
  rw [List.find?_eq_none]
  intro j hj
  simp [h j (List.mem_range.mp hj)]
theorem ok_seek (T : Txt K mg C CF) (M__lies_in : Met P w K mg base 1 C "_lies_in" (spLies C) []) (G_stretch_at : Cal P w K mg base 2 "stretch_at" spAt []) (G_is_too_full : Cal P w K mg base 2 "is_too_full" spToo []) :
    MetX P w K mg base (L2.CX P w) 3 C "_stretch_to_spread" (spSeek C CF) [] := by
  obtain ⟨f, fd, ds, F, hm, b, dv⟩ := T.m__stretch_to_spread.ex
  refine ⟨f, fd, _, _, T.cl, hm, F.okX sc_Row__stretch_to_spread (fun vs H Q E h => ?_) (fun cdv A outer s H vs Q E hr h => ?_), b, dv⟩
  · obtain ⟨_, _, _, _, _, rfl, _⟩ := h; rfl
  · obtain ⟨p, l, d, r, m, rfl, S, GR, hm0, hm1, kN, kS⟩ := h
    have h60 := GR.w60
    have hlen := GR.len
    have hm2 : m < 2 ^ 60 := Int.lt_of_lt_of_le hm1 (two_pow_le h60)
    refine ⟨_, (pss_cons (ps_for (passes_of rfl) rfl (pi_range1 (by rfl) T.n_range (pa_cons (pe_op op_add (pe_fld (pv 0) rfl) pe_int) pa_nil)) (pg_name (i := 2) sc_Row__stretch_to_spread.nd rfl (Or.inr rfl))
        (pss_cons (ps_set (i := 3) sc_Row__stretch_to_spread.nd rfl (Or.inr rfl) (pe_c G_stretch_at hr (by decide) rfl (pa_cons (pv 2) (pa_cons (pv 1) pa_nil))))
      (pss_cons (ps_set (i := 5) sc_Row__stretch_to_spread.nd rfl (Or.inl rfl) (pe_callB (id := "len") call_len_seq (by rfl) T.n_len (by decide +kernel) (pa_cons (pe_lc (own := [("thing", 4)]) (g := (gName 4)) (by rfl) sc_Row__stretch_to_spread.nd (pi_list (pe_fld (pv 0) rfl)) (blkOk_by (own := [("thing", 4)]) (N := ["self", "mark", "level", "first", "thing", "many"]) (sc := defScope s_Row__stretch_to_spread) (by decide +kernel)) (fun _ _ _ _ _ => (pg_name (i := 4) sc_Row__stretch_to_spread.nd rfl (Or.inl rfl))) (fun _ _ _ _ _ => pts_one (by exact (pt_val (pe_mt M__lies_in hr (by decide) (pv 0) (pa_cons (pv 4) (pa_cons (pv 2) (pa_cons (pv 3) pa_nil))))))) (fun _ _ _ _ _ => (pv 4))) pa_nil)))
      (pss_one (ps_if (pt_not (pt_val (pe_c G_is_too_full hr (by decide) rfl (pa_cons (pv 2) (pa_cons (pe_op op_add (pv 5) pe_int) pa_nil))))) (pss_one (ps_ret (pe_tup (pa_cons (pv 2) (pa_cons (pv 3) pa_nil))))) pss_nil)))))
      (pss_one (ps_raise rfl (takes_of rfl rfl rfl rfl) (pmk_own PySem.F.excBase_ValueError T.full.ex T.full.g T.full.kp (raises_own T.full.sb T.full.ty) rfl)))), ?_⟩
    obtain ⟨⟨dx0, ho0⟩, hl0, kvs0, hd0, _⟩ := id S
    refine ⟨_, rfl, p, C, dx0, _, _, rfl, ho0, T.cl, T.nW, fl_wide .., _, _, rfl, rfl, _, rfl, by omega, by omega, ?_⟩
    have en : ((r.wide : Int) + 1).toNat = r.wide + 1 := by omega
    rw [en]
    refine for_range (lo := 0) (n := r.wide + 1) (fun i σ H' => Same H H' ∧ (∀ j, j < i → fits r m j = false) ∧ ∃ z2 z3 z4 z5, σ = [some (.ref p), some (.int m), z2, z3, z4, z5]) ⟨Same.refl _, fun j hj => absurd hj (Nat.not_lt_zero _), none, none, none, none, rfl⟩ ?_ ?_
    · rintro i σ H1 hi ⟨s1, hno, z2, z3, z4, z5, rfl⟩
      have S1 := S.keep s1
      obtain ⟨⟨dx, ho⟩, hl, kvs, hd, hkn, D⟩ := id S1
      rw [Int.zero_add]
      refine ⟨_, rfl, _, rfl, i, m, rfl, by omega, hm0, hm2, ?_⟩
      -- many = len([..])
      have ef : m / 2 ^ i * 2 ^ i = baseM m i := rfl
      refine ⟨_, rfl, p, C, dx, _, _, rfl, ho, T.cl, T.nO, fl_order .., l, rfl, ⟨_, SqL.of hl⟩, fun Dl hDl => ?_⟩
      refine lc_list (K := K) (a := l) (xs := r.ord.map V.int) (fun j H' => H' = upd H1 Dl (.lst (((r.ord.take j).filter (lies r i (baseM m i))).map V.int))) (by simp) (fun j H' _ e => by rw [e]; exact (same_new hDl).seq (SqL.of hl)) ?_ ?_
      · rintro j x H2 hj rfl
        obtain ⟨y, hy, rfl⟩ : ∃ y, r.ord[j]? = some y ∧ x = V.int y := by
          rw [List.getElem?_map] at hj
          cases e : r.ord[j]? with
          | none => rw [e] at hj; cases hj
          | some y => rw [e] at hj; exact ⟨y, rfl, (Option.some.inj hj).symm⟩
        have S2 := S1.keep (same_new (o := .lst (((r.ord.take j).filter (lies r i (baseM m i))).map V.int)) hDl)
        obtain ⟨dx2, ho2⟩ := S2.ob
        refine ⟨rfl, _, rfl, p, dx2, _, rfl, ho2, rfl, _, rfl, _, rfl, _, rfl, p, l, d, r, y, i, _, rfl, S2, List.mem_of_getElem? hy, by omega, _, rfl, ?_⟩
        rw [ef]
        refine iteOf (fun hyes => ?_) (fun hno' => ?_)
        · refine ⟨_, rfl, _, upd_same, smallL ?_, ?_⟩
          · rw [List.length_map]
            have := filt_len (lies r i (baseM m i)) r.ord j
            omega
          · rw [upd_upd, filt_yes hy hyes, List.map_append]
            rfl
        · rw [filt_no hy hno']
      · rintro H2 rfl
        rw [List.length_map, List.take_length]
        have S2 := S1.keep (same_new (o := .lst ((r.ord.filter (lies r i (baseM m i))).map V.int)) hDl)
        have s2 : Same H (upd H1 Dl (.lst ((r.ord.filter (lies r i (baseM m i))).map V.int))) := s1.trans (same_new hDl)
        have hL2 : (upd H1 Dl (.lst ((r.ord.filter (lies r i (baseM m i))).map V.int))) Dl = some (.lst ((r.ord.filter (lies r i (baseM m i))).map V.int)) := upd_same
        generalize upd H1 Dl (.lst ((r.ord.filter (lies r i (baseM m i))).map V.int)) = H2 at *
        have hcnt : ((r.ord.filter (lies r i (baseM m i))).map V.int).length = cnt r m i := List.length_map ..
        have hc2 : cnt r m i ≤ 200 := Nat.le_trans (List.length_filter_le ..) hlen
        refine ⟨_, _, rfl, .inl (SqL.of hL2), ?_⟩
        rw [hcnt]
        refine ⟨_, rfl, _, rfl, _, _, rfl, rfl, i, _, rfl, by omega, by omega, by omega, _, rfl, ?_⟩
        refine iteOf (fun hyes => ?_) (fun hno' => ?_)
        · have hf : fits r m i = true := hyes
          refine ⟨_, rfl, _, rfl, small (by show 2 ≤ 100000; decide), fun t ht => ?_⟩
          exact kS i (find_step hno hi hf) _ t (s2.trans (same_new ht)) (s2.free ht) upd_same
        · have hf : fits r m i = false := hno'
          refine ⟨s2, fun j hj => ?_, _, _, _, _, rfl⟩
          rcases Nat.lt_succ_iff_lt_or_eq.mp hj with g | g
          · exact hno j g
          · rw [g]; exact hf
    · rintro σ H1 ⟨s1, hno, z2, z3, z4, z5, rfl⟩
      exact kN (find_none hno) _ s1
/-! ### the things of a stretch with their new marks -/
def spSpreadM (C : Addr) : Sp := fun vs H Q _ => ∃ (p l d st o : Addr) (r : R) (g : Int) (L : Nat) (f : Int) (xs : List Int), vs = [.ref p, .ref st, .ref o, .int g] ∧ RowAt C H p l d r ∧ H st = some (.tup [.int (L : Int), .int f]) ∧ H o = some (.lst (xs.map V.int)) ∧
  (∀ x ∈ xs, x = g ∨ x ∈ r.ord) ∧ L ≤ 60 ∧ 0 ≤ f ∧ f < 2 ^ 60 ∧ xs.length ≤ 1000 ∧ (xs.filter fun x => decide (x = g) || lies r L f x).length ≤ 2 ^ L ∧
  ∀ (H' : Hp) (q : Addr) (as : List Addr), Same H H' → H q = none → (∀ t ∈ as, H t = none) → H' q = some (.lst (as.map V.ref)) → as.length = (xs.filter fun x => decide (x = g) || lies r L f x).length →
    (∀ (i : Nat) (t m : Int), (xs.filter fun x => decide (x = g) || lies r L f x)[i]? = some t → (spreadL L f (xs.filter fun x => decide (x = g) || lies r L f x).length)[i]? = some m → ∃ c, as[i]? = some c ∧ H' c = some (.tup [.int t, .int m])) → Q (.ref q) H'
theorem spread_len (l : Nat) (s : Int) (m : Nat) : (spreadL l s m).length = m := by
  unfold spreadL
  rw [List.length_map, List.length_range]
theorem ok_spreadM (T : Txt K mg C CF) (M__lies_in : Met P w K mg base 1 C "_lies_in" (spLies C) []) (G_spread : Cal P w K mg base 2 "spread" spSpread []) : Met P w K mg base 3 C "_spread_marks" (spSpreadM C) [] := by
  obtain ⟨f, fd, ds, F, hm, b, dv⟩ := T.m__spread_marks.ex
  refine ⟨f, fd, _, _, T.cl, hm, F.ok sc_Row__spread_marks (fun vs H Q E h => ?_) (fun cdv A outer s H vs Q E hr h => ?_), b, dv⟩
  · obtain ⟨_, _, _, _, _, _, _, _, _, _, rfl, _⟩ := h; rfl
  · obtain ⟨p, l, d, st, o, r, g, L, f, xs, rfl, S, hst, ho, hxs, hL, hf0, hf1, hxl, hins, k⟩ := h
    refine ⟨_, (pss_cons (ps_asg (pv 1) (pg_tup rfl (pgs_cons (pg_name (i := 4) sc_Row__spread_marks.nd rfl (Or.inr rfl)) (pgs_cons (pg_name (i := 5) sc_Row__spread_marks.nd rfl (Or.inr rfl)) pgs_nil))))
      (pss_cons (ps_setLc (i := 7) (own := [("thing", 6)]) (g := (gName 6)) rfl sc_Row__spread_marks.nd rfl rfl (sw_true rfl rfl rfl (by decide +kernel)) (pi_list (pv 2)) (blkOk_by (own := [("thing", 6)]) (N := ["self", "stretch", "order", "number", "level", "first", "thing", "inside"]) (sc := defScope s_Row__spread_marks) (by decide +kernel)) (fun _ _ _ _ _ => (pg_name (i := 6) sc_Row__spread_marks.nd rfl (Or.inl rfl))) (fun _ _ _ _ _ => pts_one (by exact (PW.pt (pw_or (pt_cmpR op_eq (pv 6) (pv 3) (nomark _)) (pw_or1 (pt_val (pe_mt M__lies_in hr (by decide) (pv 0) (pa_cons (pv 6) (pa_cons (pv 4) (pa_cons (pv 5) pa_nil)))))))))) (fun _ _ _ _ _ => (pv 6)))
      (pss_one (ps_ret (pe_listZip rfl (by rfl) T.n_list (by rfl) T.n_zip (pa_cons (pv 7) (pa_cons (pe_c G_spread hr (by decide) rfl (pa_cons (pv 4) (pa_cons (pv 5) (pa_cons (pe_callB (id := "len") call_len_seq (by rfl) T.n_len (by decide +kernel) (pa_cons (pv 7) pa_nil)) pa_nil)))) pa_nil))))))), ?_⟩
    -- level, first = stretch
    refine ⟨_, rfl, st, _, rfl, SqT.of hst, rfl, _, _, rfl, _, _, rfl, rfl, ?_⟩
    -- inside
    refine ⟨_, rfl, o, rfl, ⟨_, SqL.of ho⟩, fun Dl hDl => ?_⟩
    refine lc_list (K := K) (a := o) (xs := xs.map V.int) (fun j H' => H' = upd H Dl (.lst (((xs.take j).filter fun x => decide (x = g) || lies r L f x).map V.int))) (by simp) (fun j H' _ e => by rw [e]; exact (same_new hDl).seq (SqL.of ho)) ?_ ?_
    · rintro j x H2 hj rfl
      obtain ⟨y, hy, rfl⟩ : ∃ y, xs[j]? = some y ∧ x = V.int y := by
        rw [List.getElem?_map] at hj
        cases e : xs[j]? with
        | none => rw [e] at hj; cases hj
        | some y => rw [e] at hj; exact ⟨y, rfl, (Option.some.inj hj).symm⟩
      have S2 := S.keep (same_new (o := .lst (((xs.take j).filter fun x => decide (x = g) || lies r L f x).map V.int)) hDl)
      obtain ⟨dx2, ho2⟩ := S2.ob
      have app : (decide (y = g) || lies r L f y) = true → ∃ acc, (upd H Dl (.lst (((xs.take j).filter fun x => decide (x = g) || lies r L f x).map V.int))) Dl = some (.lst acc) ∧ acc.length < sizeLine ∧
          upd (upd H Dl (.lst (((xs.take j).filter fun x => decide (x = g) || lies r L f x).map V.int))) Dl (.lst (acc ++ [V.int y])) = upd H Dl (.lst (((xs.take (j + 1)).filter fun x => decide (x = g) || lies r L f x).map V.int)) := fun hyes => by
        refine ⟨_, upd_same, smallL ?_, ?_⟩
        · rw [List.length_map]
          have := filt_len (fun x => decide (x = g) || lies r L f x) xs j
          omega
        · rw [upd_upd, filt_yes (f := fun x => decide (x = g) || lies r L f x) hy hyes, List.map_append]
          rfl
      refine ⟨rfl, _, rfl, _, rfl, rfl, _, rfl, ?_⟩
      refine ite2d (fun he => ?_) (fun hne => ?_)
      · have he' : y = g := V.int.inj he
        exact ⟨_, rfl, app (by rw [decide_eq_true he', Bool.true_or])⟩
      · have hne' : ¬ y = g := fun z => hne (congrArg V.int z)
        have hyo : y ∈ r.ord := (hxs y (List.mem_of_getElem? hy)).resolve_left hne'
        refine ⟨_, rfl, p, dx2, _, rfl, ho2, rfl, _, rfl, _, rfl, _, rfl, p, l, d, r, y, L, _, rfl, S2, hyo, hL, _, rfl, ?_⟩
        refine iteOf (fun hyes => ?_) (fun hno => ?_)
        · exact ⟨_, rfl, app (by rw [hyes, Bool.or_true])⟩
        · rw [filt_no (f := fun x => decide (x = g) || lies r L f x) hy (by rw [decide_eq_false hne', hno]; rfl)]
    · rintro H2 rfl
      rw [List.length_map, List.take_length]
      have s2 : Same H (upd H Dl (.lst ((xs.filter fun x => decide (x = g) || lies r L f x).map V.int))) := same_new hDl
      have hL2 : (upd H Dl (.lst ((xs.filter fun x => decide (x = g) || lies r L f x).map V.int))) Dl = some (.lst ((xs.filter fun x => decide (x = g) || lies r L f x).map V.int)) := upd_same
      have hi1000 : (xs.filter fun x => decide (x = g) || lies r L f x).length ≤ xs.length := List.length_filter_le ..
      generalize upd H Dl (.lst ((xs.filter fun x => decide (x = g) || lies r L f x).map V.int)) = H2 at *
      generalize (xs.filter fun x => decide (x = g) || lies r L f x) = ins at *
      -- list(zip(inside, spread(level, first, len(inside))))
      refine ⟨_, rfl, _, rfl, _, rfl, _, rfl, _, _, rfl, .inl (SqL.of hL2), ?_⟩
      rw [List.length_map]
      refine ⟨L, f, ins.length, rfl, hL, hf0, hf1, hins, by omega, fun sa hsa => ?_⟩
      refine ⟨Dl, sa, ins, (spreadL L f ins.length).map V.int, rfl, SqL.of ((same_new hsa) _ _ hL2), SqL.of upd_same, by rw [List.length_map, spread_len], fun H3 q as e1 e2 e3 e4 e5 e6 e7 => ?_⟩
      have s3 : Same H2 H3 := (same_new hsa).trans e1
      refine k H3 q as (s2.trans s3) ((s2.trans (same_new hsa)).free e2) (fun t ht => (s2.trans (same_new hsa)).free (e3 t ht)) e5 e6 fun i t m h1 h2 => ?_
      refine e7 i t (.int m) h1 ?_
      rw [List.getElem?_map, h2]
      rfl

/-! ### put -/
def StV (H : Hp) : V → Option (Nat × Int) → Prop
  | v, none => v = .non
  | v, some q => ∃ a, v = .ref a ∧ H a = some (.tup [.int (q.1 : Int), .int q.2])
/-- a list of pairs of ints -/
structure PairsAt (H : Hp) (a : Addr) (as : List Addr) (qs : List (Int × Int)) : Prop where
  li : H a = some (.lst (as.map V.ref))
  len : as.length = qs.length
  at_ : ∀ (i : Nat) (q : Int × Int), qs[i]? = some q → ∃ c, as[i]? = some c ∧ H c = some (.tup [.int q.1, .int q.2])
theorem PairsAt.keep {H H' : Hp} {a : Addr} {as : List Addr} {qs : List (Int × Int)} (S : PairsAt H a as qs) (e : Same H H') : PairsAt H' a as qs :=
  ⟨e _ _ S.li, S.len, fun i q h => let ⟨c, h1, h2⟩ := S.at_ i q h; ⟨c, h1, e _ _ h2⟩⟩
structure Told (H : Hp) (t ca : Addr) (cas : List Addr) (stv : V) (g : Nat) (st : Option (Nat × Int)) (ch : List (Int × Int)) : Prop where
  tu : H t = some (.tup [.int (g : Int), stv, .ref ca])
  ch : PairsAt H ca cas ch
  sv : StV H stv st
def spPut (C CF : Addr) : Sp := fun vs H Q E => ∃ (p l d : Addr) (r : R) (o : Option Int), vs = [.ref p, oneV o] ∧ RowAt C H p l d r ∧ Good r ∧ (∀ x, o = some x → x ∈ r.ord) ∧ r.ord.length < 200 ∧ r.given < 100000 ∧
  (marksFor r (placeOf r o) = none → ∀ H', Same H H' → E (.ref CF) none H') ∧
  (∀ st marked, marksFor r (placeOf r o) = some (st, marked) → ∀ H' l' t ca cas stv, (∀ b u, H b = some u → b ≠ p → b ≠ d → H' b = some u) → H l' = none → H ca = none → ca ≠ l' →
    RowAt C H' p l' d (putR r (placeOf r o) marked) → Told H' t ca cas stv r.given st (changedOf r marked) → Q (.ref t) H')
/-- one more pair behind the others -/
theorem PairsAt.more {H H' : Hp} {a c : Addr} {as : List Addr} {qs : List (Int × Int)} {q : Int × Int} (S : PairsAt H a as qs) (kp : ∀ b u, H b = some u → b ≠ a → H' b = some u) (hl : H' a = some (.lst (as.map V.ref ++ [V.ref c]))) (hc : H' c = some (.tup [.int q.1, .int q.2])) : PairsAt H' a (as ++ [c]) (qs ++ [q]) := by
  refine ⟨by rw [hl, List.map_append]; rfl, by rw [List.length_append, List.length_append, S.len]; rfl, fun i u h => ?_⟩
  rcases Nat.lt_trichotomy i qs.length with g | g | g
  · rw [List.getElem?_append_left g] at h
    obtain ⟨b, h1, h2⟩ := S.at_ i u h
    refine ⟨b, by rw [List.getElem?_append_left (by rw [S.len]; exact g)]; exact h1, kp b _ h2 (ne_of h2 S.li (by intro z; cases z))⟩
  · subst g
    have e : q = u := by simpa using h
    subst e
    exact ⟨c, by rw [← S.len]; simp, hc⟩
  · rw [List.getElem?_eq_none (by rw [List.length_append, List.length_singleton]; omega)] at h
    cases h
theorem place_le {r : R} {o : Option Int} (h : ∀ x, o = some x → x ∈ r.ord) : placeOf r o ≤ r.ord.length := by
  cases o with
  | none => exact Nat.zero_le _
  | some x => exact List.idxOf_lt_length_of_mem (h x rfl)
theorem ok_putF (T : Txt K mg C CF) (M__place_behind : Met P w K mg base 2 C "_place_behind" (spPlace C) []) (M__marks_around : Met P w K mg base 1 C "_marks_around" (spAround C) [])
    (M__stretch_to_spread : MetX P w K mg base (L2.CX P w) 3 C "_stretch_to_spread" (spSeek C CF) []) (M__spread_marks : Met P w K mg base 3 C "_spread_marks" (spSpreadM C) [])
    {f : Addr} {fd : FuncData} (F : FunD K "put" "Row.put" (defArgs s_Row_put) (defBody s_Row_put) (defScope s_Row_put) [.non] [] f fd) : FnOk P w K mg base (L2.CX P w) 4 f fd ["self", "one"] (spPut C CF) := by
  refine F.ok sc_Row_put (fun vs H Q E h => ?_) (fun cdv A outer s H vs Q E hr h => ?_)
  · obtain ⟨_, _, _, _, _, rfl, _⟩ := h; rfl
  · obtain ⟨p, l, d, r, o, rfl, S, GR, ho, h200, hg, kN, kS⟩ := h
    have hpl := place_le ho
    refine ⟨_, (pss_cons (ps_set (i := 2) sc_Row_put.nd rfl (Or.inl rfl) (pe_mt M__place_behind hr (by decide) (pv 0) (pa_cons (pv 1) pa_nil)))
      (pss_cons (ps_if (pt_cmpR op_ge (pe_callB (id := "len") call_len_seq (by rfl) T.n_len (by decide +kernel) (pa_cons (pe_fld (pv 0) rfl) pa_nil)) (pe_gc (by rfl) T.g_MOST_THINGS) (nomark _)) (pss_one ps_never) pss_nil)
      (pss_cons (ps_set (i := 3) sc_Row_put.nd rfl (Or.inr rfl) (pe_fld (pv 0) rfl))
      (pss_cons (ps_set (i := 4) sc_Row_put.nd rfl (Or.inl rfl) (pe_op op_cat (pe_op op_cat (pe_slice sl_list (pe_fld (pv 0) rfl) po_none (po_some (pv 2))) (pe_lst (pa_cons (pv 3) pa_nil))) (pe_slice sl_list (pe_fld (pv 0) rfl) (po_some (pv 2)) po_none)))
      (pss_cons (ps_asg (pe_mt M__marks_around hr (by decide) (pv 0) (pa_cons (pv 2) pa_nil)) (pg_tup rfl (pgs_cons (pg_name (i := 5) sc_Row_put.nd rfl (Or.inl rfl)) (pgs_cons (pg_name (i := 6) sc_Row_put.nd rfl (Or.inl rfl)) pgs_nil))))
      (pss_cut (ps_if (pt_cmpR op_ge (pe_op op_sub (pv 6) (pv 5)) pe_int (nomark _)) (pss_cons (ps_set (i := 7) sc_Row_put.nd rfl (Or.inl rfl) pe_non)
      (pss_one (ps_set (i := 8) sc_Row_put.nd rfl (Or.inl rfl) (pe_lst (pa_cons (pe_tup (pa_cons (pv 3) (pa_cons (pe_op op_fdivW (pe_op op_add (pv 5) (pv 6)) pe_int) pa_nil))) pa_nil))))) (pss_cons (ps_set (i := 7) sc_Row_put.nd rfl (Or.inl rfl) (pe_mtX M__stretch_to_spread hr (by decide) (passes_call (takes_of rfl rfl rfl rfl) fun _ _ _ _ q => q) (pv 0) (pa_cons (pe_callB (id := "max") (call_max2 rfl) (by rfl) T.n_max (by decide +kernel) (pa_cons (pv 5) (pa_cons pe_int pa_nil))) pa_nil)))
      (pss_one (ps_set (i := 8) sc_Row_put.nd rfl (Or.inl rfl) (pe_mt M__spread_marks hr (by decide) (pv 0) (pa_cons (pv 7) (pa_cons (pv 4) (pa_cons (pv 3) pa_nil))))))))
      (pss_cons (ps_setLc (i := 11) (own := [("thing", 9), ("mark", 10)]) (g := (gTup K 2 (gCons (gName 9) (gCons (gName 10) gNil)))) rfl sc_Row_put.nd rfl rfl (sw_true rfl rfl rfl (by decide +kernel)) (pi_list (pv 8)) (blkOk_by (own := [("thing", 9), ("mark", 10)]) (N := ["self", "one", "place", "number", "order", "ahead", "behind", "stretch", "marked", "thing", "mark", "changed"]) (sc := defScope s_Row_put) (by decide +kernel)) (fun _ _ _ _ _ => (pg_tup rfl (pgs_cons (pg_name (i := 9) sc_Row_put.nd rfl (Or.inl rfl)) (pgs_cons (pg_name (i := 10) sc_Row_put.nd rfl (Or.inl rfl)) pgs_nil)))) (fun _ _ _ _ _ => pts_one (by exact (PW.pt (pw_and (pt_cmpR op_ne (pv 9) (pv 3) (nomark _)) (pw_and1 (pt_cmpR (ta := tDGet (tFld K (tVar 0) "_marks") (tVar 9)) op_ne (by exact pe_dget (by exact hu_of hr) (by exact pe_fld (pv 0) rfl) (pv 9) (fun _ _ => rfl)) (pv 10) (nomark _))))))) (fun _ _ _ _ _ => (pe_tup (pa_cons (pv 9) (pa_cons (pv 10) pa_nil)))))
      (pss_cons (ps_for (passes_of rfl) rfl (pi_list (pv 8)) (pg_tup rfl (pgs_cons (pg_name (i := 9) sc_Row_put.nd rfl (Or.inl rfl)) (pgs_cons (pg_name (i := 10) sc_Row_put.nd rfl (Or.inl rfl)) pgs_nil)))
        (pss_one (ps_dput (by exact hu_of hr) (pe_fld (pv 0) rfl) (pv 9) (pv 10) rfl)))
      (pss_cons (ps_fld (pv 0) (pv 4) rfl)
      (pss_cons (ps_fld (pv 0) (pe_op op_add (pv 3) pe_int) rfl)
      (pss_cons (ps_fld (pv 0) (pe_op op_sub (pe_op op_add (pe_fld (pv 0) rfl) (pe_op op_mulW (pe_gc (by rfl) T.g_PAID_FOR_EACH_WIDE) (pe_fld (pv 0) rfl))) (pe_callB (id := "len") call_len_seq (by rfl) T.n_len (by decide +kernel) (pa_cons (pv 11) pa_nil))) rfl)
      (pss_one (ps_ret (pe_tup (pa_cons (pv 3) (pa_cons (pv 7) (pa_cons (pv 11) pa_nil))))))))))))))))), ?_⟩
    obtain ⟨⟨dx, hob⟩, hl, kvs, hd, hkn, D⟩ := id S
    have h60 := GR.w60
    have hlen := GR.len
    -- place
    refine ⟨_, rfl, p, dx, _, rfl, hob, rfl, _, rfl, p, l, d, r, o, rfl, S, ho, ?_⟩
    generalize hP : placeOf r o = n at *
    -- the length
    refine ⟨_, rfl, p, C, dx, _, _, rfl, hob, T.cl, T.nO, fl_order .., l, _, rfl, .inl (SqL.of hl), _, _, rfl, rfl, _, rfl, ?_⟩
    rw [List.length_map]
    refine iteFd (by omega) ?_
    -- number
    refine ⟨_, rfl, p, C, dx, _, _, rfl, hob, T.cl, T.nG, fl_given .., ?_⟩
    -- order
    refine ⟨_, rfl, p, C, dx, _, _, rfl, hob, T.cl, T.nO, fl_order .., _, rfl, _, rfl, l, _, rfl, SqL.of hl, fun a1 ha1 => ?_⟩
    rw [cut_to, ← List.map_take]
    refine ⟨_, rfl, small (by show 1 ≤ 100000; decide), fun a2 ha2 => ?_⟩
    have n12 : a1 ≠ a2 := fun e => by rw [← e, upd_same] at ha2; cases ha2
    refine ⟨a1, a2, _, [.int (r.given : Int)], rfl, rfl, by rw [upd_ne n12, upd_same], upd_same, small (by rw [List.length_map]; show (r.ord.take n).length + 1 ≤ _; have := List.length_take_le' n r.ord; omega), fun a3 ha3 => ?_⟩
    have s3 : Same H (upd (upd (upd H a1 (.lst ((r.ord.take n).map V.int))) a2 (.lst [.int (r.given : Int)])) a3 (.lst ((r.ord.take n).map V.int ++ [.int (r.given : Int)]))) := ((same_new ha1).trans (same_new ha2)).trans (same_new ha3)
    have hL3 : (upd (upd (upd H a1 (.lst ((r.ord.take n).map V.int))) a2 (.lst [.int (r.given : Int)])) a3 (.lst ((r.ord.take n).map V.int ++ [.int (r.given : Int)]))) a3 = some (.lst ((r.ord.take n).map V.int ++ [.int (r.given : Int)])) := upd_same
    generalize upd (upd (upd H a1 (.lst ((r.ord.take n).map V.int))) a2 (.lst [.int (r.given : Int)])) a3 (.lst ((r.ord.take n).map V.int ++ [.int (r.given : Int)])) = H3 at *
    refine ⟨_, rfl, p, C, dx, _, _, rfl, s3 _ _ hob, T.cl, T.nO, fl_order .., _, rfl, _, rfl, l, _, rfl, SqL.of (s3 _ _ hl), fun a4 ha4 => ?_⟩
    rw [cut_from, ← List.map_drop]
    refine ⟨a3, a4, _, _, rfl, rfl, (same_new ha4) _ _ hL3, upd_same, small (by rw [List.length_append, List.length_map, List.length_map, List.length_take, List.length_drop]; show _ + 1 + _ ≤ _; omega), fun oa hoa => ?_⟩
    have s5 : Same H (upd (upd H3 a4 (.lst ((r.ord.drop n).map V.int))) oa (.lst ((r.ord.take n).map V.int ++ [.int (r.given : Int)] ++ (r.ord.drop n).map V.int))) := (s3.trans (same_new ha4)).trans (same_new hoa)
    have hO5 : (upd (upd H3 a4 (.lst ((r.ord.drop n).map V.int))) oa (.lst ((r.ord.take n).map V.int ++ [.int (r.given : Int)] ++ (r.ord.drop n).map V.int))) oa = some (.lst ((ordIns r n).map V.int)) := by
      rw [upd_same]
      unfold ordIns
      rw [List.map_append, List.map_append]
      rfl
    have hoaH : H oa = none := (s3.trans (same_new ha4)).free hoa
    generalize upd (upd H3 a4 (.lst ((r.ord.drop n).map V.int))) oa (.lst ((r.ord.take n).map V.int ++ [.int (r.given : Int)] ++ (r.ord.drop n).map V.int)) = H5 at *
    have S5 := S.keep s5
    -- ahead, behind
    refine ⟨_, rfl, p, dx, _, rfl, s5 _ _ hob, rfl, _, rfl, p, l, d, r, n, rfl, S5, GR, hpl, fun t6 ht6 => ?_⟩
    refine ⟨t6, _, rfl, SqT.of upd_same, rfl, _, _, rfl, _, _, rfl, rfl, ?_⟩
    have s6 : Same H (upd H5 t6 (.tup [.int (aheadM r n), .int (behindM r n)])) := s5.trans (same_new ht6)
    have hO6 := (same_new (o := .tup [.int (aheadM r n), .int (behindM r n)]) ht6) _ _ hO5
    generalize upd H5 t6 (.tup [.int (aheadM r n), .int (behindM r n)]) = H6 at *
    have S6 := S.keep s6
    -- the two ways to the new marks
    refine ⟨fun σ' H' => ∃ st marked ma as stv, marksFor r n = some (st, marked) ∧ Same H6 H' ∧ PairsAt H' ma as marked ∧ StV H' stv st ∧
      σ' = [some (.ref p), some (oneV o), some (.int (n : Int)), some (.int (r.given : Int)), some (.ref oa), some (.int (aheadM r n)), some (.int (behindM r n)), some stv, some (.ref ma), none, none, none], ?_, ?_⟩
    · refine ⟨_, rfl, _, rfl, _, _, rfl, rfl, _, _, rfl, rfl, _, rfl, ?_⟩
      refine ite2d (fun hgap => ?_) (fun hno => ?_)
      · -- there is room
        refine ⟨_, rfl, _, rfl, _, rfl, _, _, rfl, rfl, _, _, rfl, rfl, ⟨by decide, by decide⟩, small (by show 2 ≤ 100000; decide), fun t7 ht7 => ?_⟩
        refine ⟨small (by show 1 ≤ 100000; decide), fun ma hma => ?_⟩
        refine ⟨none, _, ma, [t7], .non, if_pos hgap, (same_new ht7).trans (same_new hma), ⟨upd_same, rfl, fun i q hq => ?_⟩, rfl, rfl⟩
        cases i with
        | zero =>
          have e := Option.some.inj hq
          subst e
          exact ⟨t7, rfl, (same_new hma) _ _ upd_same⟩
        | succ i => simp at hq
      · -- there is none
        have em : (if (0 : Int) > aheadM r n then (0 : Int) else aheadM r n) = max (aheadM r n) 0 := by
          split <;> omega
        have hlt := ahead_lt GR hpl
        have hm0 : (0 : Int) ≤ max (aheadM r n) 0 := by omega
        have hm1 : max (aheadM r n) 0 < 2 ^ r.wide := by
          have := two_pow_pos r.wide
          omega
        have hm2 : max (aheadM r n) 0 < 2 ^ 60 := Int.lt_of_lt_of_le hm1 (two_pow_le h60)
        have hmf : marksFor r n = match findL r (max (aheadM r n) 0) with
          | none => none
          | some L => some (some (L, baseM (max (aheadM r n) 0) L), (inside r n L (baseM (max (aheadM r n) 0) L)).zip (spreadL L (baseM (max (aheadM r n) 0) L) (inside r n L (baseM (max (aheadM r n) 0) L)).length)) := if_neg hno
        refine ⟨_, rfl, p, dx, _, rfl, s6 _ _ hob, rfl, _, rfl, _, _, rfl, p, l, d, r, _, rfl, S6, GR, by rw [em]; exact hm0, by rw [em]; exact hm1, fun hnone H' e' => ?_, fun L hL H7 t7 s7 ht7 hT7 => ?_⟩
        · rw [em] at hnone
          rw [hnone] at hmf
          exact kN hmf H' (s6.trans e')
        · rw [em] at hL hT7
          rw [hL] at hmf
          obtain ⟨hfit, hLw, _⟩ := findL_fits hL
          have S7 := S6.keep s7
          have hins : (inside r n L (baseM (max (aheadM r n) 0) L)).length ≤ 2 ^ L := by
            rw [inside_len GR]
            exact fits_le hfit
          have hb0 := baseM_lo (l := L) hm0
          have hb1 := baseM_le (m := max (aheadM r n) 0) (l := L)
          refine ⟨_, rfl, p, dx, _, rfl, s7 _ _ (s6 _ _ hob), rfl, _, rfl, _, rfl, _, rfl, p, l, d, t7, oa, r, _, L, _, ordIns r n, rfl, S7, hT7, s7 _ _ hO6, fun x hx => mem_ins.mp hx, by omega, hb0, by omega, by rw [ins_len]; omega, hins, fun H8 ma as e1 e2 e3 e4 e5 e6 => ?_⟩
          refine ⟨_, _, ma, as, .ref t7, hmf, s7.trans e1, ⟨e4, ?_, fun i q hq => ?_⟩, ⟨t7, rfl, e1 _ _ hT7⟩, rfl⟩
          · rw [e5, List.length_zip, spread_len, Nat.min_self]
            rfl
          · obtain ⟨g1, g2⟩ := List.getElem?_zip_eq_some.mp hq
            exact e6 i q.1 q.2 g1 g2
    · rintro σ H7 ⟨st, marked, ma, as, stv, hmf, s7, PA, SV, rfl⟩
      have M := marks_ok GR hmf
      have S7 := S6.keep s7
      have s07 := s6.trans s7
      have hO7 := s7 _ _ hO6
      obtain ⟨dx7, hob7⟩ := S7.ob
      obtain ⟨kvs7, hd7, hkn7, D7⟩ := S7.di
      have hM := M.len
      have pick : ∀ (i : Nat) (x : V), (as.map V.ref)[i]? = some x → ∃ q c, marked[i]? = some q ∧ x = .ref c ∧ H7 c = some (.tup [.int q.1, .int q.2]) := fun i x hx => by
        have hi : i < marked.length := by
          have := (List.getElem?_eq_some_iff.mp hx).1
          rw [List.length_map, PA.len] at this
          exact this
        obtain ⟨c, h1, h2⟩ := PA.at_ i _ (List.getElem?_eq_getElem hi)
        refine ⟨_, c, List.getElem?_eq_getElem hi, ?_, h2⟩
        rw [List.getElem?_map, h1] at hx
        exact (Option.some.inj hx).symm
      -- changed
      refine ⟨_, rfl, ma, rfl, ⟨_, SqL.of PA.li⟩, fun ca hca => ?_⟩
      refine lc_list (K := K) (a := ma) (xs := as.map V.ref) (fun i H' => Same H7 H' ∧ ∃ cas, PairsAt H' ca cas (changedOf r (marked.take i))) ⟨same_new hca, [], ⟨upd_same, rfl, fun i q hq => by simp [changedOf] at hq⟩⟩ (fun i H' _ p => p.1.seq (SqL.of PA.li)) ?_ ?_
      · rintro i x H8 hx ⟨s8, cas, PC⟩
        obtain ⟨q, c, hq, rfl, hc⟩ := pick i x hx
        have hcl : cas.length ≤ 201 := by
          rw [PC.len]
          unfold changedOf
          have := filt_len (fun q : Int × Int => decide (q.1 ≠ (r.given : Int)) && decide (r.mrk q.1 ≠ q.2)) marked i
          omega
        refine ⟨c, _, rfl, SqT.of (s8 _ _ hc), rfl, _, _, rfl, _, _, rfl, rfl, rfl, _, rfl, _, rfl, rfl, _, rfl, ?_⟩
        by_cases hne : q.1 = (r.given : Int)
        · have e1 : (!decide (V.int q.1 = V.int (r.given : Int))) = false := by rw [hne]; simp
          rw [e1]
          refine iteF ?_
          refine iteF ?_
          refine ⟨s8, cas, ?_⟩
          have e2 : changedOf r (marked.take (i + 1)) = changedOf r (marked.take i) := filt_no (f := fun q : Int × Int => decide (q.1 ≠ (r.given : Int)) && decide (r.mrk q.1 ≠ q.2)) hq (by simp [hne])
          rw [e2]
          exact PC
        · have e1 : (!decide (V.int q.1 = V.int (r.given : Int))) = true := by
            have : ¬ V.int q.1 = V.int (r.given : Int) := fun z => hne (V.int.inj z)
            rw [decide_eq_false this]
            rfl
          rw [e1]
          refine iteT ?_
          have hqo : q.1 ∈ r.ord := (M.keys q (List.mem_of_getElem? hq)).resolve_left hne
          have hv : valV kvs7 (Sum.inl q.1) = some (.int (r.mrk q.1)) := by rw [D7.get, if_pos hqo]
          refine ⟨_, rfl, p, C, dx7, _, _, rfl, s8 _ _ hob7, T.cl, T.nM, fl_marks .., _, rfl, d, _, rfl, by rw [← hv]; exact DGet.k (k := Sum.inl q.1) (s8 _ _ hd7), _, rfl, rfl, _, rfl, ?_⟩
          by_cases heq : r.mrk q.1 = q.2
          · refine iteNS (congrArg V.int heq) ?_
            refine ⟨s8, cas, ?_⟩
            have e2 : changedOf r (marked.take (i + 1)) = changedOf r (marked.take i) := filt_no (f := fun q : Int × Int => decide (q.1 ≠ (r.given : Int)) && decide (r.mrk q.1 ≠ q.2)) hq (by simp [heq])
            rw [e2]
            exact PC
          · refine iteNT (fun z => heq (V.int.inj z)) ?_
            refine ⟨_, rfl, _, rfl, small (by show 2 ≤ 100000; decide), fun c2 hc2 => ?_⟩
            have nc : ca ≠ c2 := ne_of_none PC.li hc2
            refine ⟨_, by rw [upd_ne nc]; exact PC.li, smallL (by rw [List.length_map]; omega), ?_⟩
            have kp : ∀ b u, H8 b = some u → b ≠ ca → (upd (upd H8 c2 (.tup [.int q.1, .int q.2])) ca (.lst (cas.map V.ref ++ [V.ref c2]))) b = some u := fun b u e hb => by
              rw [upd_ne hb, upd_ne (ne_of_none e hc2)]
              exact e
            have e2 : changedOf r (marked.take (i + 1)) = changedOf r (marked.take i) ++ [q] := filt_yes (f := fun q : Int × Int => decide (q.1 ≠ (r.given : Int)) && decide (r.mrk q.1 ≠ q.2)) hq (by simp [hne, heq])
            refine ⟨fun b u e => kp b u (s8 b u e) (ne_of_none e hca), cas ++ [c2], ?_⟩
            rw [e2]
            exact PC.more kp upd_same (by rw [upd_ne nc.symm, upd_same])
      · rintro H8 ⟨s8, cas, PC⟩
        rw [List.length_map, PA.len, List.take_length] at PC
        have s08 := s07.trans s8
        have hcaH : H ca = none := s07.free hca
        have ncl : ca ≠ oa := (ne_of_none hO7 hca).symm
        have hO8 := s8 _ _ hO7
        have hd8 := s8 _ _ hd7
        have hob8 := s8 _ _ hob7
        have PA8 := PA.keep s8
        have SV8 : StV H8 stv st := by
          cases st with
          | none => exact SV
          | some q => obtain ⟨a, h1, h2⟩ := SV; exact ⟨a, h1, s8 _ _ h2⟩
        have npd := S.npd
        -- the marks
        refine ⟨_, rfl, ma, rfl, ⟨_, SqL.of PA8.li⟩, for_list (K := K) (a := ma) (xs := as.map V.ref) (fun i σ H' => (∀ b u, H8 b = some u → b ≠ d → H' b = some u) ∧ (∃ kvs', H' d = some (.dK kvs') ∧ DMid r (marked.take i) kvs') ∧ ∃ z9 z10, σ = [some (.ref p), some (oneV o), some (.int (n : Int)), some (.int (r.given : Int)), some (.ref oa), some (.int (aheadM r n)), some (.int (behindM r n)), some stv, some (.ref ma), z9, z10, some (.ref ca)])
          ⟨fun b u e _ => e, ⟨kvs7, hd8, DMid.start D7 hkn7⟩, none, none, rfl⟩ (fun i σ H' _ q => SqL.of (q.1 _ _ PA8.li (ne_of PA8.li hd8 (by intro z; cases z)))) ?_ ?_⟩
        · rintro i x σ H9 hx ⟨k9, ⟨kvs9, hd9, M9⟩, z9, z10, rfl⟩
          obtain ⟨q, c, hq, rfl, hc⟩ := pick i x hx
          have hc9 := k9 c _ (s8 _ _ hc) (ne_of (s8 _ _ hc) hd8 (by intro z; cases z))
          refine ⟨c, _, rfl, SqT.of hc9, rfl, _, _, rfl, _, _, rfl, rfl, ?_⟩
          have hl9 : kvs9.length < sizeLine := smallL (by have := M9.le; have := GR.few; omega)
          refine ⟨_, rfl, _, rfl, p, C, dx7, _, _, rfl, k9 _ _ hob8 npd, T.cl, T.nM, fl_marks .., _, rfl, d, _, rfl, DPut.k (k := Sum.inl q.1) hd9 hl9, ?_⟩
          refine ⟨fun b u e hb => by rw [upd_ne hb]; exact k9 b u e hb, ⟨_, upd_same, ?_⟩, _, _, rfl⟩
          have e2 : marked.take (i + 1) = marked.take i ++ [q] := by rw [List.take_add_one, hq]; rfl
          rw [e2]
          exact M9.step GR (M.keys q (List.mem_of_getElem? hq))
        · rintro σ H9 ⟨k9, ⟨kvs9, hd9, M9⟩, z9, z10, rfl⟩
          rw [List.length_map, PA.len, List.take_length] at M9
          have hob9 := k9 _ _ hob8 npd
          have nod : oa ≠ d := ne_of hO8 hd8 (by intro z; cases z)
          have nop : oa ≠ p := ne_of hO8 hob8 (by intro z; cases z)
          have ncd : ca ≠ d := ne_of PC.li hd8 (by intro z; cases z)
          have ncp : ca ≠ p := ne_of PC.li hob8 (by intro z; cases z)
          have hO9 := k9 _ _ hO8 nod
          have hC9 := k9 _ _ PC.li ncd
          have hcl : (cas.map V.ref).length = (changedOf r marked).length := by rw [List.length_map, PC.len]
          -- self._order = order
          refine ⟨_, rfl, _, rfl, p, C, dx7, _, rfl, hob9, T.cl, T.nO, (by show 5 < 1000; decide), ?_⟩
          rw [fl_put_order]
          -- self._given = number + 1
          refine ⟨_, rfl, _, _, rfl, rfl, _, rfl, p, C, dx7, _, rfl, upd_same, T.cl, T.nG, (by show 5 < 1000; decide), ?_⟩
          rw [upd_upd, fl_put_given]
          -- self._purse
          refine ⟨_, rfl, p, C, dx7, _, _, rfl, upd_same, T.cl, T.nP, fl_purse .., _, rfl, p, C, dx7, _, _, rfl, upd_same, T.cl, T.nW, fl_wide .., _, _, rfl, rfl, wide_mul (show (8 : Int).natAbs < 2 ^ 4 by decide) (show (r.wide : Int).natAbs < 2 ^ 10 by omega) (by decide) (by decide) (by decide), _, _, rfl, rfl, ?_⟩
          refine ⟨_, rfl, ca, _, rfl, .inl (SqL.of (by rw [upd_ne ncp]; exact hC9)), _, _, rfl, rfl, _, rfl, p, C, dx7, _, rfl, upd_same, T.cl, T.nP, (by show 5 < 1000; decide), ?_⟩
          rw [upd_upd, fl_put_purse, hcl]
          -- return
          refine ⟨_, rfl, _, rfl, _, rfl, small (by show 3 ≤ 100000; decide), fun t ht => ?_⟩
          have kAll : ∀ b u, H8 b = some u → b ≠ p → b ≠ d → (upd (upd H9 p (.ins C dx7 (flds (r.wide : Int) oa d ((r.given : Int) + 1) (r.purse + 8 * (r.wide : Int) - ((changedOf r marked).length : Int))))) t (.tup [.int (r.given : Int), stv, .ref ca])) b = some u := fun b u e hp hd => by
            have e9 := k9 b u e hd
            rw [upd_ne (ne_of_none (by rw [upd_ne hp]; exact e9) ht), upd_ne hp]
            exact e9
          have ntp : p ≠ t := ne_of_none upd_same ht
          have ntd : d ≠ t := ne_of_none (by rw [upd_ne npd.symm]; exact hd9) ht
          refine kS st marked hmf _ oa t ca cas stv (fun b u e hp hd => kAll b u (s08 b u e) hp hd) hoaH hcaH ncl ⟨⟨dx7, ?_⟩, kAll oa _ hO8 nop nod, kvs9, ?_, M9.le, M9.done M⟩ ⟨upd_same, ⟨kAll ca _ PC.li ncp ncd, PC.len, fun i q hq => ?_⟩, ?_⟩
          · rw [upd_ne ntp, upd_same]
            rfl
          · rw [upd_ne ntd, upd_ne npd.symm]
            exact hd9
          · obtain ⟨c, h1, h2⟩ := PC.at_ i q hq
            exact ⟨c, h1, kAll c _ h2 (ne_of h2 hob8 (by intro z; cases z)) (ne_of h2 hd8 (by intro z; cases z))⟩
          · cases st with
            | none => exact SV8
            | some q =>
              obtain ⟨a, h1, h2⟩ := SV8
              exact ⟨a, h1, kAll a _ h2 (ne_of h2 hob8 (by intro z; cases z)) (ne_of h2 hd8 (by intro z; cases z))⟩
/-- put(one), put() -/
theorem ok_put (T : Txt K mg C CF) (h : ∀ {f : Addr} {fd : FuncData}, FunD K "put" "Row.put" (defArgs s_Row_put) (defBody s_Row_put) (defScope s_Row_put) [.non] [] f fd → FnOk P w K mg base (L2.CX P w) 4 f fd ["self", "one"] (spPut C CF)) :
    MetX P w K mg base (L2.CX P w) 4 C "put" (spPut C CF) [] ∧ MetX P w K mg base (L2.CX P w) 4 C "put" (spPut C CF) [.non] := by
  obtain ⟨f, fd, F, hm, b1, ds, dv, b0⟩ := T.m_put.ex
  exact ⟨⟨f, fd, _, _, T.cl, hm, h F, b1, .nil⟩, ⟨f, fd, _, _, T.cl, hm, h F, b0, dv⟩⟩

/-! ### a new row; taking; what is told -/
def newR (n : Nat) : R := ⟨n, 0, 0, [], fun _ => 0⟩
def spInit (C : Addr) : Sp := fun vs H Q _ => ∃ (p dx : Addr) (n : Nat) (wv : Int), vs = [.ref p, .int wv] ∧ wv = (n : Int) ∧ H p = some (.ins C dx []) ∧ 4 ≤ n ∧ n ≤ 60 ∧ ∀ H' l d, (∀ b u, H b = some u → b ≠ p → H' b = some u) → H l = none → H d = none → RowAt C H' p l d (newR n) → Q .non H'
theorem ok_init (T : Txt K mg C CF) (G_check_within : Cal P w K mg base 1 "check_within" spCheck []) : Mak P w K mg base 2 "Row" C (spInit C) [] := by
  obtain ⟨f, fd, M, F, b⟩ := T.mkRow.ex
  refine ⟨f, fd, _, _, M, F.ok sc_Row___init__ (fun vs H Q E h => ?_) (fun cdv A outer s H vs Q E hr h => ?_), T.gRow, b, .nil⟩
  · obtain ⟨_, _, _, _, rfl, _⟩ := h; rfl
  · obtain ⟨p, dx, n, _, rfl, rfl, hp, h4, h60, k⟩ := h
    refine ⟨_, (pss_cons (ps_expr (pe_c G_check_within hr (by decide) rfl (pa_cons (pv 1) (pa_cons (pe_gc (by rfl) T.g_LEAST_WIDE) (pa_cons (pe_gc (by rfl) T.g_MOST_WIDE) pa_nil)))))
      (pss_cons (ps_fld (pv 0) (pv 1) rfl)
      (pss_cons (ps_fld (pv 0) (pe_lst pa_nil) rfl)
      (pss_cons (ps_fld (pv 0) pe_dnewK rfl)
      (pss_cons (ps_fld (pv 0) pe_int rfl)
      (pss_one (ps_fld (pv 0) pe_int rfl))))))), ?_⟩
    refine ⟨_, rfl, _, _, _, rfl, by omega, by omega, ?_⟩
    refine ⟨_, rfl, _, rfl, p, C, dx, [], rfl, hp, T.cl, T.nW, (by show 0 < 1000; decide), ?_⟩
    refine ⟨Nat.zero_le _, fun l hl => ?_⟩
    have npl : p ≠ l := ne_of_none upd_same hl
    refine ⟨_, rfl, p, C, dx, _, rfl, by rw [upd_ne npl, upd_same], T.cl, T.nO, (by show 1 < 1000; decide), ?_⟩
    intro d hd
    have npd : p ≠ d := ne_of_none upd_same hd
    have nld : l ≠ d := fun e => by rw [← e, upd_ne npl.symm, upd_same] at hd; cases hd
    refine ⟨_, rfl, p, C, dx, _, rfl, by rw [upd_ne npd, upd_same], T.cl, T.nM, (by show 2 < 1000; decide), ?_⟩
    refine ⟨_, rfl, p, C, dx, _, rfl, upd_same, T.cl, T.nG, (by show 3 < 1000; decide), ?_⟩
    refine ⟨_, rfl, p, C, dx, _, rfl, upd_same, T.cl, T.nP, (by show 4 < 1000; decide), ?_⟩
    have hlH : H l = none := by rw [upd_ne npl.symm] at hl; exact hl
    have hdH : H d = none := by rw [upd_ne npd.symm, upd_ne nld.symm, upd_ne npd.symm] at hd; exact hd
    refine k _ l d (fun b u e hb => ?_) hlH hdH ⟨⟨dx, upd_same⟩, ?_, [], ?_, Nat.zero_le _, List.nodup_nil, fun x => ?_⟩
    · rw [upd_ne hb, upd_ne hb, upd_ne hb, upd_ne (ne_of_none e hdH), upd_ne hb, upd_ne (ne_of_none e hlH), upd_ne hb]
      exact e
    · rw [upd_ne npl.symm, upd_ne npl.symm, upd_ne npl.symm, upd_ne nld, upd_ne npl.symm, upd_same]
      rfl
    · rw [upd_ne npd.symm, upd_ne npd.symm, upd_ne npd.symm, upd_same]
    · rfl
theorem good_new {n : Nat} (h4 : 4 ≤ n) (h60 : n ≤ 60) : Good (newR n) := ⟨h4, h60, List.nodup_nil, (fun x h => by cases h), Nat.zero_le _, (fun x h => by cases h), (fun x h => by cases h), .nil, Nat.zero_le _⟩
theorem valV_drop (kvs : List (Key × V)) (k j : Key) : valV (dropK kvs k) j = if j = k then none else valV kvs j := by
  induction kvs with
  | nil => rw [show dropK ([] : List (Key × V)) k = [] from rfl, valV_nil]; simp
  | cons q r ih =>
    by_cases e : q.1 = k
    · rw [dropK_pos e, ih]
      by_cases g : j = k
      · rw [if_pos g, if_pos g]
      · rw [if_neg g, if_neg g, valV_neg (by rw [e]; exact fun z => g z.symm)]
    · rw [dropK_neg e]
      by_cases g : q.1 = j
      · rw [valV_pos g, valV_pos g, if_neg (by rw [← g]; exact e)]
      · rw [valV_neg g, valV_neg g, ih]
def spTake (C : Addr) : Sp := fun vs H Q _ => ∃ (p l d : Addr) (r : R) (x : Int), vs = [.ref p, .int x] ∧ RowAt C H p l d r ∧ Good r ∧ x ∈ r.ord ∧ ∀ H', (∀ b u, H b = some u → b ≠ l → b ≠ d → H' b = some u) → RowAt C H' p l d (takeR r x) → Q .non H'
theorem ok_take (T : Txt K mg C CF) (M__check_thing : Met P w K mg base 1 C "_check_thing" (spChk C) []) : Met P w K mg base 2 C "take" (spTake C) [] := by
  obtain ⟨f, fd, ds, F, hm, b, dv⟩ := T.m_take.ex
  refine ⟨f, fd, _, _, T.cl, hm, F.ok sc_Row_take (fun vs H Q E h => ?_) (fun cdv A outer s H vs Q E hr h => ?_), b, dv⟩
  · obtain ⟨_, _, _, _, _, rfl, _⟩ := h; rfl
  · obtain ⟨p, l, d, r, x, rfl, S, GR, hx, k⟩ := h
    obtain ⟨⟨dx, ho⟩, hl, kvs, hd, hn, D⟩ := id S
    refine ⟨_, (pss_cons (ps_expr (pe_mt M__check_thing hr (by decide) (pv 0) (pa_cons (pv 1) pa_nil)))
      (pss_cons (ps_expr (pe_bm PySem.F.plainAttrs_list PySem.F.slot_list_remove PySem.F.type_list_remove mt_remove (pe_fld (pv 0) rfl) (pa_cons (pv 1) pa_nil)))
      (pss_one (ps_ddel (pe_fld (pv 0) rfl) (pv 1))))), ?_⟩
    refine ⟨_, rfl, p, dx, _, rfl, ho, rfl, _, rfl, p, l, d, r, x, rfl, S, hx, ?_⟩
    have hlt := List.idxOf_lt_length_of_mem hx
    refine ⟨_, rfl, p, C, dx, _, _, rfl, ho, T.cl, T.nO, fl_order .., .inl ⟨rfl, _, SqL.of hl⟩, _, rfl, l, r.ord, x, r.ord.idxOf x, rfl, rfl, hl, by rw [List.getElem?_eq_getElem hlt, List.getElem_idxOf], fun m hm e => ?_, ?_⟩
    · have := List.not_of_lt_findIdx (p := (· == x)) (xs := r.ord) hm
      have hml : m < r.ord.length := Nat.lt_trans hm hlt
      rw [List.getElem?_eq_getElem hml] at e
      have e2 := Option.some.inj e
      simp [e2] at this
    · have npl := S.npl
      have npd := S.npd
      have nld := S.nld
      have hv : valV kvs (Sum.inl x) = some (.int (r.mrk x)) := by rw [D.get, if_pos hx]
      refine ⟨_, rfl, p, C, dx, _, _, rfl, by rw [upd_ne npl]; exact ho, T.cl, T.nM, fl_marks .., _, rfl, d, kvs, Sum.inl x, rfl, by rw [upd_ne nld.symm]; exact hd, rfl, by rw [hv]; rfl, ?_⟩
      refine k _ (fun b u e hb1 hb2 => by rw [upd_ne hb2, upd_ne hb1]; exact e) ⟨⟨dx, by rw [upd_ne npd, upd_ne npl]; exact ho⟩, ?_, _, upd_same, Nat.le_trans (dropK_le ..) hn, nd_dropK D.nd, fun y => ?_⟩
      · rw [upd_ne nld, upd_same, ← List.erase_eq_eraseIdx_of_idxOf rfl]
        rfl
      · rw [valV_drop, D.get]
        show _ = if y ∈ r.ord.erase x then some (V.int (r.mrk y)) else none
        by_cases e : y = x
        · rw [if_pos (by rw [e]), if_neg]
          rw [GR.nd.mem_erase_iff]
          exact fun z => z.1 e
        · rw [if_neg (fun z => e (Sum.inl.inj z))]
          have e2 : y ∈ r.ord.erase x ↔ y ∈ r.ord := by
            rw [GR.nd.mem_erase_iff]
            exact ⟨fun z => z.2, fun z => ⟨e, z⟩⟩
          simp only [e2]
theorem good_take {r : R} {x : Int} (G : Good r) : Good (takeR r x) :=
  ⟨G.w4, G.w60, G.nd.erase x, fun y h => G.num y (List.mem_of_mem_erase h), Nat.le_trans (List.length_erase_le ..) G.len, fun y h => G.lo y (List.mem_of_mem_erase h), fun y h => G.hi y (List.mem_of_mem_erase h), G.up.sublist (List.erase_sublist ..), G.few⟩
def spThings (C : Addr) : Sp := fun vs H Q _ => ∃ (p l d : Addr) (r : R), vs = [.ref p] ∧ RowAt C H p l d r ∧ ∀ q, H q = none → Q (.ref q) (upd H q (.lst (r.ord.map V.int)))
theorem ok_things (T : Txt K mg C CF) : Met P w K mg base 1 C "things" (spThings C) [] := by
  obtain ⟨f, fd, ds, F, hm, b, dv⟩ := T.m_things.ex
  refine ⟨f, fd, _, _, T.cl, hm, F.ok sc_Row_things (fun vs H Q E h => ?_) (fun cdv A outer s H vs Q E hr h => ?_), b, dv⟩
  · obtain ⟨_, _, _, _, rfl, _⟩ := h; rfl
  · obtain ⟨p, l, d, r, rfl, S, k⟩ := h
    obtain ⟨⟨dx, ho⟩, hl, _⟩ := id S
    refine ⟨_, (pss_one (ps_ret (pe_callTy call_list_of (by rfl) T.n_list (by decide +kernel) (pa_cons (pe_fld (pv 0) rfl) pa_nil)))), ?_⟩
    exact ⟨_, rfl, p, C, dx, _, _, rfl, ho, T.cl, T.nO, fl_order .., l, _, rfl, .inl (SqL.of hl), k⟩

/-! ### mark, is_ahead, purse -/
def spMark (C : Addr) : Sp := fun vs H Q _ => ∃ (p l d : Addr) (r : R) (x : Int), vs = [.ref p, .int x] ∧ RowAt C H p l d r ∧ x ∈ r.ord ∧ Q (.int (r.mrk x)) H
theorem RowAt.val {C : Addr} {H : Hp} {p l d : Addr} {r : R} (S : RowAt C H p l d r) : ∃ kvs, H d = some (.dK kvs) ∧ ∀ x ∈ r.ord, valV kvs (.inl x) = some (.int (r.mrk x)) :=
  let ⟨kvs, hd, _, D⟩ := S.di
  ⟨kvs, hd, fun x hx => by rw [D.get, if_pos hx]⟩
theorem ok_mark (T : Txt K mg C CF) (M__check_thing : Met P w K mg base 1 C "_check_thing" (spChk C) []) : Met P w K mg base 2 C "mark" (spMark C) [] := by
  obtain ⟨f, fd, ds, F, hm, b, dv⟩ := T.m_mark.ex
  refine ⟨f, fd, _, _, T.cl, hm, F.ok sc_Row_mark (fun vs H Q E h => ?_) (fun cdv A outer s H vs Q E hr h => ?_), b, dv⟩
  · obtain ⟨_, _, _, _, _, rfl, _⟩ := h; rfl
  · obtain ⟨p, l, d, r, x, rfl, S, hx, k⟩ := h
    obtain ⟨dx, ho⟩ := S.ob
    obtain ⟨kvs, hd, hv⟩ := S.val
    refine ⟨_, (pss_cons (ps_expr (pe_mt M__check_thing hr (by decide) (pv 0) (pa_cons (pv 1) pa_nil)))
      (pss_one (ps_ret (pe_dget (by exact hu_of hr) (pe_fld (pv 0) rfl) (pv 1) (fun _ _ => rfl))))), ?_⟩
    refine ⟨_, rfl, p, dx, _, rfl, ho, rfl, _, rfl, p, l, d, r, x, rfl, S, hx, ?_⟩
    exact ⟨_, rfl, p, C, dx, _, _, rfl, ho, T.cl, T.nM, fl_marks .., _, rfl, d, _, rfl, by rw [← hv x hx]; exact DGet.k (k := Sum.inl x) hd, k⟩

def spPurse (C : Addr) : Sp := fun vs H Q _ => ∃ (p l d : Addr) (r : R), vs = [.ref p] ∧ RowAt C H p l d r ∧ Q (.int r.purse) H
theorem ok_purse (T : Txt K mg C CF) : Met P w K mg base 1 C "purse" (spPurse C) [] := by
  obtain ⟨f, fd, ds, F, hm, b, dv⟩ := T.m_purse.ex
  refine ⟨f, fd, _, _, T.cl, hm, F.ok sc_Row_purse (fun vs H Q E h => ?_) (fun cdv A outer s H vs Q E hr h => ?_), b, dv⟩
  · obtain ⟨_, _, _, _, rfl, _⟩ := h; rfl
  · obtain ⟨p, l, d, r, rfl, S, k⟩ := h
    obtain ⟨dx, ho⟩ := S.ob
    refine ⟨_, (pss_one (ps_ret (pe_fld (pv 0) rfl))), ?_⟩
    exact ⟨_, rfl, p, C, dx, _, _, rfl, ho, T.cl, T.nP, fl_purse .., k⟩

theorem hu64 {A : Around} {k : Nat} (hr : Room k A) : A.units + 64 < cLine := hr.units
theorem cells_at : ¬ ((Sum.inr ("cells" : Str) : Key) = Sum.inr ("at" : Str)) := by
  intro h
  have h2 := Sum.inr.inj h
  revert h2
  decide +kernel
/-- the law's state: its cells at c, its turn k -/
def stD (c : Addr) (k : Int) : List (Key × V) := [(.inr "cells", .ref c), (.inr "at", .int k)]
theorem stD_at (c : Addr) (k : Int) : valV (stD c k) (.inr ("at" : Str) : Key) = some (.int k) := by
  unfold stD
  rw [valV_neg cells_at, valV_pos rfl]
theorem stD_cells (c : Addr) (k : Int) : valV (stD c k) (.inr ("cells" : Str) : Key) = some (.ref c) := by
  unfold stD
  rw [valV_pos rfl]
theorem stD_put (c : Addr) (k j : Int) : putK (stD c k) (.inr ("at" : Str) : Key) (.int j) = stD c j := by
  unfold stD putK
  have h : ¬ (Str.ofString "cells" = Str.ofString "at") := fun e => cells_at (congrArg Sum.inr e)
  simp [h]
theorem dp_ints {K : PySem.W.Frag} {H : Hp} : ∀ (xs : List Int), DpAll K H (xs.map V.int) (xs.map PyData.int)
  | [] => .nil
  | x :: r => .cons (.int x) (dp_ints r)
theorem shaped_ints (xs : List Int) : SeqAt.shaped (.list (xs.map PyData.int)) = true := by
  have h1 : ∀ l : List Int, PyData.canLayAll0 (l.map PyData.int) = true := fun l => by
    induction l with
    | nil => simp [PyData.canLayAll0]
    | cons a r ih => simp [PyData.canLayAll0, PyData.canLay0, ih]
  have h2 : ∀ l : List Int, PyData.depthAll (l.map PyData.int) ≤ 1 := fun l => by
    induction l with
    | nil => simp [PyData.depthAll]
    | cons a r ih => simp only [List.map_cons, PyData.depthAll, PyData.depth]; omega
  have h3 := h2 xs
  have h4 : PyData.depth (.list (xs.map PyData.int)) = PyData.depthAll (xs.map PyData.int) + 1 := by simp [PyData.depth]
  unfold SeqAt.shaped
  rw [Bool.and_eq_true, decide_eq_true_eq, h4]
  exact ⟨by simp only [PyData.canLay0]; exact h1 xs, by omega⟩
theorem eqv_ints_nil (xs : List Int) : PyData.eqv (.list (xs.map PyData.int)) (.list []) = xs.isEmpty := by
  cases xs with
  | nil => simp [PyData.eqv, PyData.eqvAll]
  | cons a r => simp [PyData.eqv, PyData.eqvAll]
/-- the script: known to the object, or an object of the module -/
def ScrF (K : PySem.W.Frag) (H : Hp) (c : Addr) (xs : List Int) : Prop := (∃ o, H c = some (.frz o (.lst (xs.map V.int)))) ∨
  ∃ (o : Obj) (its : Array Value) (n : Nat), K.lookup c = some o ∧ o.cls = .type "list" ∧ o.dict = none ∧ o.data = .seq its n ∧ its.size ≤ sizeLine ∧ Vals (xs.map V.int) its.toList
theorem ScrF.sq {K : PySem.W.Frag} {H : Hp} {c : Addr} {xs : List Int} (h : ScrF K H c xs) : SqL K H c (xs.map V.int) := by
  rcases h with ⟨o, h⟩ | h
  · exact .inl (.inr ⟨o, h⟩)
  · exact .inr h
theorem ScrF.of {K : PySem.W.Frag} {H : Hp} {c : Addr} {xs : List Int} (hO : Only H) (h : SqL K H c (xs.map V.int)) : ScrF K H c xs := by
  rcases h with (h | ⟨o, h⟩) | h
  · rcases hO c with z | ⟨o, ys, z⟩
    · rw [h] at z; cases z
    · rw [h] at z; cases z
  · exact .inl ⟨o, h⟩
  · exact .inr h
theorem ScrF.keep {K : PySem.W.Frag} {H H' : Hp} {c : Addr} {xs : List Int} (h : ScrF K H c xs) (e : ∀ o u, H c = some (.frz o u) → H' c = some (.frz o u)) : ScrF K H' c xs := by
  rcases h with ⟨o, h⟩ | h
  · exact .inl ⟨o, e _ _ h⟩
  · exact .inr h
/-- the state stands at a: its cells a list of at most 63 ints -/
structure StAt (K : PySem.W.Frag) (H : Hp) (a c : Addr) (k : Nat) (xs : List Int) : Prop where
  dc : H a = some (.dK (stD c k))
  cs : ScrF K H c xs
def spNext (K : PySem.W.Frag) : Sp := fun vs H Q _ => ∃ (a c : Addr) (k : Nat) (xs : List Int), vs = [.ref a] ∧ StAt K H a c k xs ∧ xs.length ≤ 100 ∧ k ≤ 1000000 ∧ ∀ (n : Int) (H' : Hp), 0 ≤ n → n ≤ 306783378 → (∀ b o, H b = some o → b ≠ a → H' b = some o) → StAt K H' a c (k + 1) xs → Q (.int n) H'
theorem ok__law_next (T : Txt K mg C CF) : Cal P w K mg base 1 "_law_next" (spNext K) [] := by
  obtain ⟨f, fd, F, hm, b⟩ := T.d__law_next.ex
  refine ⟨f, fd, _, _, F.ok sc__law_next (fun vs H Q E h => ?_) (fun cdv A outer s H vs Q E hr h => ?_), hm, F.kp, b, .nil⟩
  · obtain ⟨_, _, _, _, rfl, _⟩ := h; rfl
  · obtain ⟨a, c, k, xs, rfl, ⟨hd, hc⟩, hx, hk, q⟩ := h
    refine ⟨_, (pss_cons (ps_dput (by exact hu_of hr) (pv 0) pe_str (pe_op op_add (pe_dget (by exact hu_of hr) (pv 0) pe_str (fun _ _ => rfl)) pe_int) rfl)
      (pss_cons (ps_set (i := 1) sc__law_next.nd rfl (Or.inl rfl) (pe_dget (by exact hu_of hr) (pv 0) pe_str (fun _ _ => rfl)))
      (pss_cons (ps_set (i := 2) sc__law_next.nd rfl (Or.inl rfl) (pe_dget (by exact hu_of hr) (pv 0) pe_str (fun _ _ => rfl)))
      (pss_cons (ps_set (i := 3) sc__law_next.nd rfl (Or.inl rfl) (pe_op op_add (pe_op op_mulW (pe_op op_mulW pe_int (pv 1)) (pv 1)) (pe_op op_mulW pe_int (pv 1))))
      (pss_cons (ps_if (pt_cmpR (op_neD (hu64 hr)) (pv 2) (pe_lst pa_nil) (nomark _)) (pss_one (ps_set (i := 3) sc__law_next.nd rfl (Or.inl rfl) (pe_op op_add (pv 3) (pe_op op_mulW (pe_op op_mod (pe_ix ix_list (pv 2) (pe_op op_mod (pv 1) (pe_callB (id := "len") call_len_seq (by rfl) T.n_len (by decide +kernel) (pa_cons (pv 2) pa_nil))) (fun _ _ => rfl)) pe_int) (pe_op op_add pe_int (pe_op op_fdivW (pv 1) (pe_callB (id := "len") call_len_seq (by rfl) T.n_len (by decide +kernel) (pa_cons (pv 2) pa_nil)))))))) pss_nil)
      (pss_one (ps_ret (pe_op op_fdivW (pe_op op_mod (pe_op op_mulW (pv 3) pe_int) pe_int) pe_int)))))))), ?_⟩
    refine ⟨_, rfl, _, _, rfl, by rw [← stD_at c (k : Int)]; exact DGet.k (k := (Sum.inr "at" : Key)) hd, ?_⟩
    have hda : (upd H a (.dK (stD c ((k + 1 : Nat) : Int)))) a = some (.dK (stD c ((k + 1 : Nat) : Int))) := upd_same
    refine ⟨_, _, rfl, rfl, _, rfl, a, upd H a (.dK (stD c ((k + 1 : Nat) : Int))), rfl, ?_, ?_⟩
    · have e := DPut.k (k := (Sum.inr ("at" : Str) : Key)) (v := V.int ((k : Int) + 1)) hd (smallL (by show 2 ≤ 100000; decide))
      rw [stD_put] at e
      exact e
    have hs : ScrF K (upd H a (.dK (stD c ((k + 1 : Nat) : Int)))) c xs := hc.keep fun o u h => by rw [upd_ne (ne_of h hd (by intro z; cases z))]; exact h
    refine ⟨_, rfl, _, _, rfl, by rw [← stD_at c]; exact DGet.k (k := (Sum.inr ("at" : Str) : Key)) hda, ?_⟩
    refine ⟨_, rfl, _, _, rfl, by rw [← stD_cells c]; exact DGet.k (k := (Sum.inr ("cells" : Str) : Key)) hda, ?_⟩
    generalize hH1 : upd H a (.dK (stD c ((k + 1 : Nat) : Int))) = H1 at *
    have hkk : ((k + 1 : Nat) : Int).natAbs < 2 ^ 30 := by omega
    have b1 : ((31 : Int) * ((k + 1 : Nat) : Int)).natAbs < 2 ^ (5 + 30) := wide_lt (by decide) hkk
    have b2 : ((31 : Int) * ((k + 1 : Nat) : Int) * ((k + 1 : Nat) : Int)).natAbs < 2 ^ (5 + 30 + 30) := wide_lt b1 hkk
    have b3 : ((7919 : Int) * ((k + 1 : Nat) : Int)).natAbs < 2 ^ (13 + 30) := wide_lt (by decide) hkk
    refine ⟨_, rfl, _, _, rfl, rfl, wide_mul (a := 5) (by decide) hkk (by decide) (by decide) (by decide), _, rfl, _, _, rfl, rfl, wide_mul b1 hkk (by decide) (by decide) (by decide), _, rfl, _, _, rfl, rfl, wide_mul (a := 13) (by decide) hkk (by decide) (by decide) (by decide), _, _, rfl, rfl, ?_⟩
    have b4 : ((31 : Int) * ((k + 1 : Nat) : Int) * ((k + 1 : Nat) : Int) + 7919 * ((k + 1 : Nat) : Int)).natAbs < 2 ^ 66 := by omega
    refine ⟨_, rfl, Nat.zero_le _, fun p hp => ?_⟩
    have hfr : ∀ b o, H b = some o → b ≠ a → (upd H1 p (.lst [])) b = some o := fun b o e hb => by
      have e1 : H1 b = some o := by rw [← hH1, upd_ne hb]; exact e
      rw [upd_ne (ne_of_none e1 hp)]
      exact e1
    have hst : StAt K (upd H1 p (.lst [])) a c (k + 1) xs := ⟨by rw [upd_ne (ne_of_none hda hp)]; exact hda, hs.keep fun o u h => (same_new hp) _ _ h⟩
    have hs2 := hst.cs.sq
    refine ⟨_, _, .lst hs2 (dp_ints xs), .lst (SqL.of upd_same) .nil, shaped_ints xs, rfl, _, rfl, ?_⟩
    rw [eqv_ints_nil]
    have fin : ∀ z : Int, z.natAbs < 2 ^ 200 → 0 ≤ z * 48271 % 2147483647 / 7 ∧ z * 48271 % 2147483647 / 7 ≤ 306783378 := fun z _ => by omega
    have hlen : (xs.map V.int).length = xs.length := List.length_map ..
    cases hxe : xs.isEmpty with
    | true =>
      refine iteF ?_
      refine ⟨_, rfl, _, _, rfl, rfl, wide_mul b4 (show (48271 : Int).natAbs < 2 ^ 16 by decide) (by decide) (by decide) (by decide), _, _, rfl, rfl, (by (show (0 : Int) < _; first | decide | omega)), _, _, rfl, rfl, ⟨by decide, by decide⟩, ?_⟩
      exact q _ _ (fin _ (Nat.lt_trans b4 (by decide))).1 (fin _ (Nat.lt_trans b4 (by decide))).2 hfr hst
    | false =>
      refine iteT ?_
      have hpos : 0 < xs.length := by
        cases xs with
        | nil => cases hxe
        | cons _ _ => exact Nat.succ_pos _
      have hlt : (k + 1) % xs.length < xs.length := Nat.mod_lt _ hpos
      have hat : atI (xs.map V.int) (((k + 1 : Nat) : Int) % ((xs.map V.int).length : Int)) = some (.int xs[(k + 1) % xs.length]) := by
        have e : ((k + 1 : Nat) : Int) % ((xs.map V.int).length : Int) = (((k + 1) % xs.length : Nat) : Int) := by rw [hlen]; omega
        rw [e]
        refine atI_nat ?_
        rw [List.getElem?_map, List.getElem?_eq_getElem hlt]
        rfl
      generalize xs[(k + 1) % xs.length] = y at hat
      have hlp : (0 : Int) < ((xs.map V.int).length : Int) := by rw [hlen]; omega
      have hq0 : 0 ≤ ((k + 1 : Nat) : Int) / ((xs.map V.int).length : Int) := Int.ediv_nonneg (by omega) (by omega)
      have hq1 : ((k + 1 : Nat) : Int) / ((xs.map V.int).length : Int) ≤ ((k + 1 : Nat) : Int) := Int.ediv_le_self _ (by omega)
      have c1 : (y % 2147483647).natAbs < 2 ^ 31 := by omega
      have c2 : (1 + ((k + 1 : Nat) : Int) / ((xs.map V.int).length : Int)).natAbs < 2 ^ 31 := by omega
      have c3 := wide_lt c1 c2
      have c4 : ((31 : Int) * ((k + 1 : Nat) : Int) * ((k + 1 : Nat) : Int) + 7919 * ((k + 1 : Nat) : Int) + y % 2147483647 * (1 + ((k + 1 : Nat) : Int) / ((xs.map V.int).length : Int))).natAbs < 2 ^ 67 := by omega
      refine ⟨_, rfl, _, rfl, _, rfl, _, rfl, _, _, rfl, .inl hs2, _, _, rfl, rfl, hlp, _, _, _, _, rfl, rfl, hs2, hat, _, _, rfl, rfl, (by (show (0 : Int) < _; first | decide | omega)), ?_⟩
      refine ⟨_, rfl, _, rfl, _, _, rfl, .inl hs2, _, _, rfl, rfl, wide_div hlp (show ((xs.map V.int).length : Int).natAbs < 2 ^ 20 by rw [hlen]; omega) (by decide) (by decide), _, _, rfl, rfl, _, _, rfl, rfl, wide_mul c1 c2 (by decide) (by decide) (by decide), _, _, rfl, rfl, ?_⟩
      refine ⟨_, rfl, _, _, rfl, rfl, wide_mul c4 (show (48271 : Int).natAbs < 2 ^ 16 by decide) (by decide) (by decide) (by decide), _, _, rfl, rfl, (by (show (0 : Int) < _; first | decide | omega)), _, _, rfl, rfl, ⟨by decide, by decide⟩, ?_⟩
      exact q _ _ (fin _ (Nat.lt_trans c4 (by decide))).1 (fin _ (Nat.lt_trans c4 (by decide))).2 hfr hst
theorem stD_new (c : Addr) (k : Int) : mergeK [] (stD c k) = stD c k := by
  unfold mergeK stD
  have h : ¬ (Str.ofString "cells" = Str.ofString "at") := fun e => cells_at (congrArg Sum.inr e)
  simp [putK, h]
theorem StAt.keep {K : PySem.W.Frag} {H H' : Hp} {a c : Addr} {k : Nat} {xs : List Int} (S : StAt K H a c k xs) (e : Same H H') : StAt K H' a c k xs := ⟨e _ _ S.dc, S.cs.keep fun o u h => e _ _ h⟩
/-- all but p as it was -/
def But (p : Addr) (H H' : Hp) : Prop := ∀ b o, H b = some o → b ≠ p → H' b = some o
theorem But.same {p : Addr} {H H1 H' : Hp} (s : Same H H1) (hp : H p = none) (k : But p H1 H') : Same H H' := fun b o e => k b o (s b o e) (ne_of_none e hp)

def spLawToo : Sp := fun vs H Q _ => ∃ (l : Nat) (m : Int), vs = [.int (l : Int), .int m] ∧ l ≤ 60 ∧ m.natAbs < 2 ^ 61 ∧ Q (.bl (decide (4 ^ l < m * 3 ^ l))) H
theorem ok__law_too_many (T : Txt K mg C CF) : Cal P w K mg base 1 "_law_too_many" spLawToo [] := by
  obtain ⟨f, fd, F, hm, b⟩ := T.d__law_too_many.ex
  refine ⟨f, fd, _, _, F.ok sc__law_too_many (fun vs H Q E h => ?_) (fun cdv A outer s H vs Q E hr h => ?_), hm, F.kp, b, .nil⟩
  · obtain ⟨_, _, rfl, _⟩ := h; rfl
  · obtain ⟨l, m, rfl, hl, hb, k⟩ := h
    refine ⟨_, (pss_cons (ps_set (i := 2) sc__law_too_many.nd rfl (Or.inl rfl) pe_int)
      (pss_cons (ps_for PassesOwn.never rfl (pi_range1 (by rfl) T.n_range (pa_cons (pv 0) pa_nil)) (pg_name (i := 3) sc__law_too_many.nd rfl (Or.inl rfl))
        (pss_cons (ps_set (i := 1) sc__law_too_many.nd rfl (Or.inl rfl) (pe_op op_mulW (pv 1) pe_int))
      (pss_one (ps_set (i := 2) sc__law_too_many.nd rfl (Or.inl rfl) (pe_op op_mulW (pv 2) pe_int)))))
      (pss_one (ps_ret (pe_cmpR op_gt (pv 1) (pv 2) (nomark _)))))), ?_⟩
    refine ⟨_, rfl, _, rfl, by omega, by omega, for_range (lo := 0) (n := ((l : Int)).toNat) (fun i σ H' => H' = H ∧ ∃ z, σ = [some (.int (l : Int)), some (.int (m * 3 ^ i)), some (.int (4 ^ i)), z]) ⟨rfl, none, by rw [Int.pow_zero, Int.pow_zero, Int.mul_one]; rfl⟩ ?_ ?_⟩
    · rintro i σ H' hi ⟨rfl, z, rfl⟩
      have hi' : i < l := by omega
      have h3 : (m * 3 ^ i).natAbs < 2 ^ (61 + 130) := wide_lt hb (pow_bound (by decide) (by decide) (by omega))
      refine ⟨_, rfl, _, _, rfl, rfl, wide_mul h3 (show (3 : Int).natAbs < 2 ^ 3 by decide) (by decide) (by decide) (by decide), _, rfl, _, _, rfl, rfl, wide_mul (pow_bound (b := 4) (n := i) (by decide) (by decide) (by omega)) (show (4 : Int).natAbs < 2 ^ 3 by decide) (by decide) (by decide) (by decide), rfl, some (.int (0 + (i : Int))), ?_⟩
      rw [Int.pow_succ, Int.pow_succ, ← Int.mul_assoc]
      rfl
    · rintro σ H' ⟨rfl, z, rfl⟩
      refine ⟨_, rfl, _, rfl, _, _, rfl, rfl, ?_⟩
      rw [Int.toNat_natCast]
      exact k

/-! ### objects that stand, each at its own address, and the script -/
inductive Ob where
  | dk (kvs : List (Key × V))
  | ls (xs : List V)
  | tu (xs : List V)
  | rp (C l d : Addr) (r : R)
  | dm (n : Nat) (ord : List Int) (f : Int → Int)
def Ob.ok : Ob → HO → Prop
  | .dk kvs, o => o = .dK kvs
  | .ls xs, o => o = .lst xs
  | .tu xs, o => o = .tup xs
  | .rp C l d r, o => ∃ dx, o = .ins C dx (flds r.wide l d r.given r.purse)
  | .dm n ord f, o => ∃ kvs, o = .dK kvs ∧ kvs.length ≤ n ∧ DictIs kvs ord f
theorem Ob.nf {x : Ob} {o : Obj} {u : HO} (h : x.ok (.frz o u)) : False := by
  cases x with
  | dk _ => cases h
  | ls _ => cases h
  | tu _ => cases h
  | rp _ _ _ _ => obtain ⟨_, h⟩ := h; cases h
  | dm _ _ _ => obtain ⟨_, h, _⟩ := h; cases h
structure Foot (K : PySem.W.Frag) (c : Addr) (ns : List Int) (H : Hp) (fs : List (Addr × Ob)) : Prop where
  nd : (fs.map (·.1)).Nodup
  at_ : ∀ e, e ∈ fs → ∃ o, H e.1 = some o ∧ e.2.ok o
  scr : ScrF K H c ns
theorem set_at {α : Type} {xs : List α} {i : Nat} {a : α} (h : xs[i]? = some a) : xs.set i a = xs := by
  induction xs generalizing i with
  | nil => rfl
  | cons x r ih =>
    cases i with
    | zero => have e : x = a := Option.some.inj h; rw [e]; rfl
    | succ i => show x :: r.set i a = _; rw [ih h]
theorem nd_set {xs : List Addr} {i : Nat} {a : Addr} (h : xs.Nodup) (ha : ¬ a ∈ xs) : (xs.set i a).Nodup := by
  induction xs generalizing i with
  | nil => exact h
  | cons x r ih =>
    rw [List.mem_cons, not_or] at ha
    rw [List.nodup_cons] at h
    cases i with
    | zero => exact List.nodup_cons.mpr ⟨ha.2, h.2⟩
    | succ i =>
      refine List.nodup_cons.mpr ⟨fun z => ?_, ih h.2 ha.2⟩
      rcases List.mem_or_eq_of_mem_set z with z | z
      · exact h.1 z
      · exact ha.1 z.symm
section
variable {K : PySem.W.Frag} {c : Addr} {ns : List Int} {H H' : Hp} {fs : List (Addr × Ob)}
theorem Foot.ok (F : Foot K c ns H fs) {i : Nat} {a : Addr} {x : Ob} (hi : fs[i]? = some (a, x)) : ∃ o, H a = some o ∧ x.ok o := F.at_ _ (List.mem_of_getElem? hi)
theorem Foot.ne (F : Foot K c ns H fs) {i j : Nat} {a b : Addr} {x y : Ob} (hi : fs[i]? = some (a, x)) (hj : fs[j]? = some (b, y)) (n : i ≠ j) : a ≠ b := by
  have h := List.pairwise_iff_getElem.mp F.nd
  obtain ⟨li, ei⟩ := List.getElem?_eq_some_iff.mp hi
  obtain ⟨lj, ej⟩ := List.getElem?_eq_some_iff.mp hj
  have li' : i < (fs.map (·.1)).length := by rw [List.length_map]; exact li
  have lj' : j < (fs.map (·.1)).length := by rw [List.length_map]; exact lj
  have ai : (fs.map (·.1))[i] = a := by rw [List.getElem_map, ei]
  have aj : (fs.map (·.1))[j] = b := by rw [List.getElem_map, ej]
  rcases Nat.lt_or_gt_of_ne n with g | g
  · have := h i j li' lj' g
    rw [ai, aj] at this
    exact this
  · have := h j i lj' li' g
    rw [ai, aj] at this
    exact this.symm
theorem Foot.li (F : Foot K c ns H fs) (i : Nat) {a : Addr} {xs : List V} (hi : fs[i]? = some (a, .ls xs)) : H a = some (.lst xs) := by
  obtain ⟨o, h, e⟩ := F.ok hi; cases e; exact h
theorem Foot.dk (F : Foot K c ns H fs) (i : Nat) {a : Addr} {kvs : List (Key × V)} (hi : fs[i]? = some (a, .dk kvs)) : H a = some (.dK kvs) := by
  obtain ⟨o, h, e⟩ := F.ok hi; cases e; exact h
theorem Foot.tu (F : Foot K c ns H fs) (i : Nat) {a : Addr} {xs : List V} (hi : fs[i]? = some (a, .tu xs)) : H a = some (.tup xs) := by
  obtain ⟨o, h, e⟩ := F.ok hi; cases e; exact h
theorem Foot.dm (F : Foot K c ns H fs) (i : Nat) {a : Addr} {n : Nat} {ord : List Int} {f : Int → Int} (hi : fs[i]? = some (a, .dm n ord f)) : ∃ kvs, H a = some (.dK kvs) ∧ kvs.length ≤ n ∧ DictIs kvs ord f := by
  obtain ⟨o, h, kvs, e, q⟩ := F.ok hi; cases e; exact ⟨kvs, h, q⟩
theorem Foot.row (F : Foot K c ns H fs) (i j k : Nat) {p l d C : Addr} {r : R} (h0 : fs[i]? = some (p, .rp C l d r)) (h1 : fs[j]? = some (l, .ls (r.ord.map V.int))) (h2 : fs[k]? = some (d, .dm r.given r.ord r.mrk)) : RowAt C H p l d r := by
  obtain ⟨o, h, dx, e⟩ := F.ok h0
  cases e
  exact ⟨⟨dx, h⟩, F.li j h1, F.dm k h2⟩
theorem Foot.st (F : Foot K c ns H fs) (i : Nat) {a : Addr} {k : Nat} (hi : fs[i]? = some (a, .dk (stD c k))) : StAt K H a c k ns := ⟨F.dk i hi, F.scr⟩
theorem Foot.same (F : Foot K c ns H fs) (e : Same H H') : Foot K c ns H' fs :=
  ⟨F.nd, fun x hx => let ⟨o, h, q⟩ := F.at_ x hx; ⟨o, e _ _ h, q⟩, F.scr.keep fun o u h => e _ _ h⟩
theorem Foot.nfz (F : Foot K c ns H fs) {i : Nat} {a b : Addr} {x : Ob} (hi : fs[i]? = some (a, x)) {o : Obj} {u : HO} (h : H b = some (.frz o u)) : b ≠ a := fun e => by
  obtain ⟨y, h1, h2⟩ := F.ok hi
  rw [← e, h] at h1
  cases h1
  exact Ob.nf h2
theorem set_other {α : Type} {xs : List α} {i j : Nat} {a b : α} (n : i ≠ j) (h : xs[j]? = some b) : (xs.set i a)[j]? = some b := by
  rw [List.getElem?_set_ne n]; exact h
/-- one of them turns -/
theorem Foot.one (F : Foot K c ns H fs) (y : Ob) {i : Nat} {a : Addr} {x : Ob} (hi : fs[i]? = some (a, x)) (e : ∀ b u, H b = some u → b ≠ a → H' b = some u) (hy : ∃ o, H' a = some o ∧ y.ok o) : Foot K c ns H' (fs.set i (a, y)) := by
  refine ⟨?_, fun z hz => ?_, F.scr.keep fun o u h => e _ _ h (F.nfz hi h)⟩
  · rw [List.map_set, set_at (by rw [List.getElem?_map, hi]; rfl)]
    exact F.nd
  · obtain ⟨j, hj⟩ := List.mem_iff_getElem?.mp hz
    by_cases n : i = j
    · subst n
      rw [List.getElem?_set_self (List.getElem?_eq_some_iff.mp hi).1] at hj
      cases hj
      exact hy
    · rw [List.getElem?_set_ne n] at hj
      obtain ⟨o, h1, h2⟩ := F.at_ z (List.mem_of_getElem? hj)
      exact ⟨o, e _ _ h1 (F.ne (x := z.2) (i := j) (j := i) hj hi (fun q => n q.symm)), h2⟩
/-- a list of theirs turns by itself -/
theorem Foot.uli (F : Foot K c ns H fs) (i : Nat) {a : Addr} {x : Ob} (ys : List V) (hi : fs[i]? = some (a, x)) : Foot K c ns (upd H a (.lst ys)) (fs.set i (a, .ls ys)) := F.one (.ls ys) hi (fun b u h hb => by rw [upd_ne hb]; exact h) ⟨_, upd_same, rfl⟩
theorem Foot.udk (F : Foot K c ns H fs) (i : Nat) {a : Addr} {x : Ob} (ys : List (Key × V)) (hi : fs[i]? = some (a, x)) : Foot K c ns (upd H a (.dK ys)) (fs.set i (a, .dk ys)) := F.one (.dk ys) hi (fun b u h hb => by rw [upd_ne hb]; exact h) ⟨_, upd_same, rfl⟩
theorem Foot.fresh (F : Foot K c ns H fs) {a : Addr} (ha : H a = none) : ¬ a ∈ fs.map (·.1) := fun z => by
  obtain ⟨e, he, q⟩ := List.mem_map.mp z
  obtain ⟨o, h, _⟩ := F.at_ e he
  rw [q, ha] at h
  cases h
/-- one more -/
theorem Foot.push (F : Foot K c ns H fs) {a : Addr} (x : Ob) (e : Same H H') (ha : H a = none) (h : ∃ o, H' a = some o ∧ x.ok o) : Foot K c ns H' (fs ++ [(a, x)]) := by
  refine ⟨?_, fun z hz => ?_, F.scr.keep fun o u h => e _ _ h⟩
  · rw [List.map_append, List.nodup_append]
    exact ⟨F.nd, List.nodup_cons.mpr ⟨List.not_mem_nil, List.nodup_nil⟩, fun y hy z hz => by
      have e := List.mem_singleton.mp hz
      subst e
      exact fun q => F.fresh ha (q ▸ hy)⟩
  · rcases List.mem_append.mp hz with g | g
    · obtain ⟨o, h1, h2⟩ := F.at_ z g
      exact ⟨o, e _ _ h1, h2⟩
    · rw [List.mem_singleton.mp g]
      exact h
theorem Foot.pli (F : Foot K c ns H fs) {a : Addr} {ys : List V} (ha : H a = none) : Foot K c ns (upd H a (.lst ys)) (fs ++ [(a, .ls ys)]) := F.push (.ls ys) (same_new ha) ha ⟨_, upd_same, rfl⟩
theorem Foot.ptu (F : Foot K c ns H fs) {a : Addr} {ys : List V} (ha : H a = none) : Foot K c ns (upd H a (.tup ys)) (fs ++ [(a, .tu ys)]) := F.push (.tu ys) (same_new ha) ha ⟨_, upd_same, rfl⟩
theorem Foot.top (F : Foot K c ns H fs) (n : Nat) : Foot K c ns H (fs.take n) :=
  ⟨by rw [List.map_take]; exact F.nd.sublist (List.take_sublist ..), fun z hz => F.at_ z (List.mem_of_mem_take hz), F.scr⟩
theorem Foot.start {a : Addr} {k : Nat} (h : H a = some (.dK (stD c k))) (s : ScrF K H c ns) : Foot K c ns H [(a, .dk (stD c k))] :=
  ⟨List.nodup_cons.mpr ⟨List.not_mem_nil, List.nodup_nil⟩, fun z hz => by rw [List.mem_singleton.mp hz]; exact ⟨_, h, rfl⟩, s⟩
/-- a row turns -/
theorem Foot.turn (F : Foot K c ns H fs) (i j k : Nat) {p l l' d C : Addr} {r' : R} {x0 x1 x2 : Ob} (h0 : fs[i]? = some (p, x0)) (h1 : fs[j]? = some (l, x1)) (h2 : fs[k]? = some (d, x2)) (nij : i ≠ j) (nik : i ≠ k) (njk : j ≠ k)
    (e : ∀ b u, H b = some u → b ≠ p → b ≠ l → b ≠ d → H' b = some u) (hl : l' = l ∨ H l' = none) (W : RowAt C H' p l' d r') : Foot K c ns H' (((fs.set i (p, .rp C l' d r')).set j (l', .ls (r'.ord.map V.int))).set k (d, .dm r'.given r'.ord r'.mrk)) := by
  have m0 : (fs.map (·.1))[i]? = some p := by rw [List.getElem?_map, h0]; rfl
  have m1 : (fs.map (·.1))[j]? = some l := by rw [List.getElem?_map, h1]; rfl
  have m2 : (fs.map (·.1))[k]? = some d := by rw [List.getElem?_map, h2]; rfl
  obtain ⟨dx, w0⟩ := W.ob
  refine ⟨?_, fun z hz => ?_, F.scr.keep fun o u h => e _ _ h (F.nfz h0 h) (F.nfz h1 h) (F.nfz h2 h)⟩
  · rw [List.map_set, List.map_set, List.map_set, set_at m0]
    show (((fs.map (·.1)).set j l').set k d).Nodup
    rw [set_at (set_other njk m2)]
    rcases hl with q | q
    · rw [q, set_at m1]; exact F.nd
    · exact nd_set F.nd (F.fresh q)
  · obtain ⟨n, hn⟩ := List.mem_iff_getElem?.mp hz
    by_cases nk : k = n
    · subst nk
      rw [List.getElem?_set_self (by rw [List.length_set, List.length_set]; exact (List.getElem?_eq_some_iff.mp h2).1)] at hn
      cases hn
      obtain ⟨kvs, h, q⟩ := W.di
      exact ⟨_, h, kvs, rfl, q⟩
    · rw [List.getElem?_set_ne nk] at hn
      by_cases nj : j = n
      · subst nj
        rw [List.getElem?_set_self (by rw [List.length_set]; exact (List.getElem?_eq_some_iff.mp h1).1)] at hn
        cases hn
        exact ⟨_, W.li, rfl⟩
      · rw [List.getElem?_set_ne nj] at hn
        by_cases ni : i = n
        · subst ni
          rw [List.getElem?_set_self (List.getElem?_eq_some_iff.mp h0).1] at hn
          cases hn
          exact ⟨_, w0, dx, rfl⟩
        · rw [List.getElem?_set_ne ni] at hn
          obtain ⟨o, g1, g2⟩ := F.at_ z (List.mem_of_getElem? hn)
          exact ⟨o, e _ _ g1 (F.ne (x := z.2) hn h0 (fun q => ni q.symm)) (F.ne (x := z.2) hn h1 (fun q => nj q.symm)) (F.ne (x := z.2) hn h2 (fun q => nk q.symm)), g2⟩
/-- a new row -/
theorem Foot.addRow (F : Foot K c ns H fs) {p l d C : Addr} {r : R} (s : Same H H') (hp : H p = none) (hl : H l = none) (hd : H d = none) (W : RowAt C H' p l d r) : Foot K c ns H' (fs ++ [(p, .rp C l d r), (l, .ls (r.ord.map V.int)), (d, .dm r.given r.ord r.mrk)]) := by
  obtain ⟨dx, w0⟩ := id W.ob
  refine ⟨?_, fun z hz => ?_, F.scr.keep fun o u h => s _ _ h⟩
  · rw [List.map_append, List.nodup_append]
    refine ⟨F.nd, ?_, fun y hy z hz => ?_⟩
    · show [p, l, d].Nodup
      have := W.npl
      have := W.npd
      have := W.nld
      simp [*]
    · have hz' : z ∈ [p, l, d] := hz
      intro q
      subst q
      simp only [List.mem_cons, List.not_mem_nil, or_false] at hz'
      rcases hz' with z | z | z
      · exact F.fresh hp (z ▸ hy)
      · exact F.fresh hl (z ▸ hy)
      · exact F.fresh hd (z ▸ hy)
  · rcases List.mem_append.mp hz with g | g
    · obtain ⟨o, h1, h2⟩ := F.at_ z g
      exact ⟨o, s _ _ h1, h2⟩
    · simp only [List.mem_cons, List.not_mem_nil, or_false] at g
      rcases g with g | g | g
      · rw [g]; exact ⟨_, w0, dx, rfl⟩
      · rw [g]; exact ⟨_, W.li, rfl⟩
      · rw [g]
        obtain ⟨kvs, h, q⟩ := W.di
        exact ⟨_, h, kvs, rfl, q⟩
end

/-! ### rules of the kit, said over the fragment by its name: within a comprehension -/
theorem ix_tupK {X : Cx} {K : PySem.W.Frag} (h : X.K = K) : IxR X (rIxT K) := h ▸ ix_tup
theorem ix_listK {X : Cx} {K : PySem.W.Frag} (h : X.K = K) : IxR X (rIxL K) := h ▸ ix_list
theorem lenK {X : Cx} {K : PySem.W.Frag} (h : X.K = K) : CallR X (.builtin "len") (fun xs H Q => ∃ p ys, xs = [V.ref p] ∧ (SqL K H p ys ∨ SqT K H p ys) ∧ Q (V.int (ys.length : Int)) H) := h ▸ call_len_seq
theorem isiK {X : Cx} {K : PySem.W.Frag} (h : X.K = K) : CallR X (.builtin "isinstance") (rIsi K) := h ▸ call_isi
theorem neDK {X : Cx} {K : PySem.W.Frag} (h : X.K = K) (u : X.A.units + 64 < cLine) : OpR X (compareOp .NotEq) (rNeD K) := h ▸ op_neD u
theorem eqDK {X : Cx} {K : PySem.W.Frag} (h : X.K = K) (u : X.A.units + 64 < cLine) : OpR X (compareOp .Eq) (rEqD K) := h ▸ op_eqD u
theorem c_of {v : V} {σ : L2.St} {H : Hp} {Q : VK} (h : Q v H) : tC v σ H Q := h

/-! ### a putting that may be refused -/
def spTried (C : Addr) (no : V) (yes : Addr → V) : Sp := fun vs H Q _ => ∃ (p l d : Addr) (r : R) (o : Option Int), vs = [.ref p, oneV o] ∧ RowAt C H p l d r ∧ Good r ∧ (∀ x, o = some x → x ∈ r.ord) ∧ r.ord.length < 200 ∧ r.given < 100000 ∧
  (marksFor r (placeOf r o) = none → ∀ H', Same H H' → Q no H') ∧
  (∀ st marked, marksFor r (placeOf r o) = some (st, marked) → ∀ H' l' t ca cas stv, (∀ b u, H b = some u → b ≠ p → b ≠ d → H' b = some u) → H l' = none → H ca = none → ca ≠ l' →
    RowAt C H' p l' d (putR r (placeOf r o) marked) → Told H' t ca cas stv r.given st (changedOf r marked) → Q (yes t) H')

theorem made {C : Addr} {H H3 : Hp} {p dx l d : Addr} (hp : H p = none) (hdx : H dx = none) (k3 : ∀ b u, (upd (upd H dx (.own p)) p (.ins C dx [])) b = some u → b ≠ p → H3 b = some u) (hl : (upd (upd H dx (.own p)) p (.ins C dx [])) l = none) (hd : (upd (upd H dx (.own p)) p (.ins C dx [])) d = none) : Same H H3 ∧ H l = none ∧ H d = none := by
  have s0 : Same H (upd (upd H dx (.own p)) p (.ins C dx [])) := fun b u e => by
    rw [upd_ne (ne_of_none e hp), upd_ne (ne_of_none e hdx)]
    exact e
  exact ⟨fun b u e => k3 b u (s0 b u e) (ne_of_none e hp), s0.free hl, s0.free hd⟩
/-- n % m == 0 and line != [] -/
theorem test_take {K : PySem.W.Frag} {σ : L2.St} {H : Hp} {Q : Bool → Hp → Prop} {i j : Nat} {N M : Int} {xs : List Int} {la : Addr} (hi : σ[i]? = some (some (.int N))) (hj : σ[j]? = some (some (.ref la))) (hl : H la = some (.lst (xs.map V.int))) (hM : 0 < M)
    (q : ∀ b H1, Same H H1 → (b = true → 0 < xs.length) → Q b H1) :
    tAnd (tTest (tOp rEq (tOp (rI (fun _ j => 0 < j) fun i j => V.int (i % j)) (tVar i) (tC (.int M))) (tC (.int 0)))) (tTest (tOp (rNeD K) (tVar j) (tLst tNil))) σ H Q := by
  refine ⟨_, hi, _, _, rfl, rfl, hM, rfl, _, rfl, ?_⟩
  refine ite2d (fun _ => ?_) (fun _ => q false H (Same.refl _) (by simp))
  refine ⟨_, hj, Nat.zero_le _, fun e he => ⟨_, _, .lst (SqL.of ((same_new he) _ _ hl)) (dp_ints xs), .lst (SqL.of upd_same) .nil, shaped_ints xs, rfl, _, rfl, ?_⟩⟩
  rw [eqv_ints_nil]
  refine q _ _ (same_new he) fun hb => ?_
  cases xs with
  | nil => cases hb
  | cons _ _ => exact Nat.succ_pos _
theorem ix_mod {xs : List Int} (h : 0 < xs.length) (N : Int) : ∃ x, x ∈ xs ∧ atI (xs.map V.int) (N % ((xs.map V.int).length : Int)) = some (.int x) := by
  have h1 := Int.emod_lt_of_pos N (show (0 : Int) < (xs.length : Int) by omega)
  have h2 := Int.emod_nonneg N (show (xs.length : Int) ≠ 0 by omega)
  have hlt : (N % (xs.length : Int)).toNat < xs.length := by omega
  have e1 : N % ((xs.map V.int).length : Int) = ((N % (xs.length : Int)).toNat : Int) := by
    rw [List.length_map, Int.toNat_of_nonneg h2]
  rw [e1]
  exact ⟨_, getD_mem hlt, atI_nat (getD_at hlt)⟩
theorem rem_ok {xs : List Int} {x : Int} (hx : x ∈ xs) : xs[xs.idxOf x]? = some x ∧ (∀ m : Nat, m < xs.idxOf x → xs[m]? ≠ some x) ∧ xs.eraseIdx (xs.idxOf x) = xs.erase x := by
  have hlt := List.idxOf_lt_length_of_mem hx
  refine ⟨by rw [List.getElem?_eq_getElem hlt, List.getElem_idxOf], fun m hm e => ?_, (List.erase_eq_eraseIdx_of_idxOf rfl).symm⟩
  have := List.not_of_lt_findIdx (p := (· == x)) (xs := xs) hm
  have hml : m < xs.length := Nat.lt_trans hm hlt
  rw [List.getElem?_eq_getElem hml] at e
  have e2 := Option.some.inj e
  simp [e2] at this
theorem erase_at {l : List Int} (h : l.Nodup) {i : Nat} {x : Int} (hi : l[i]? = some x) : l.eraseIdx i = l.erase x := by
  induction l generalizing i with
  | nil => simp at hi
  | cons a r ih =>
    rw [List.nodup_cons] at h
    cases i with
    | zero =>
      have e : a = x := Option.some.inj hi
      subst e
      simp
    | succ i =>
      have hm : x ∈ r := List.mem_of_getElem? hi
      have ne : ¬ a = x := fun e => h.1 (e ▸ hm)
      have hi' : r[i]? = some x := hi
      show a :: r.eraseIdx i = _
      rw [ih h.2 hi', List.erase_cons_tail (by simpa using ne)]
theorem map_eraseI {α β : Type} (f : α → β) (l : List α) (i : Nat) : (l.map f).eraseIdx i = (l.eraseIdx i).map f := by
  induction l generalizing i with
  | nil => rfl
  | cons a r ih =>
    cases i with
    | zero => rfl
    | succ i => show f a :: (r.map f).eraseIdx i = _; rw [ih]; rfl

theorem inV_ints {z : Int} {xs : List Int} : inV (.int z) (xs.map V.int) = decide (z ∈ xs) := by
  unfold inV
  induction xs with
  | nil => simp
  | cons a r ih =>
    rw [List.map_cons, List.any_cons, ih]
    by_cases e : z = a
    · subst e
      simp [eqV]
    · have h1 : (a == z) = false := by simpa using fun q => e q.symm
      have h2 : (z == a) = false := by simpa using e
      simp [eqV, h1, h2, e]
/-- the law's line stands: its dict at m, its list at la -/
structure LineAt (H : Hp) (m la : Addr) (kv : List (Key × V)) (g : Nat) (xs : List Int) : Prop where
  dc : H m = some (.dK kv)
  v1 : valV kv (.inr ("line" : Str) : Key) = some (.ref la)
  v2 : valV kv (.inr ("next" : Str) : Key) = some (.int (g : Int))
  li : H la = some (.lst (xs.map V.int))
theorem LineAt.keep {H H' : Hp} {m la : Addr} {kv : List (Key × V)} {g : Nat} {xs : List Int} (S : LineAt H m la kv g xs) (e : ∀ b u, H b = some u → b = m ∨ b = la → H' b = some u) : LineAt H' m la kv g xs := ⟨e _ _ S.dc (.inl rfl), S.v1, S.v2, e _ _ S.li (.inr rfl)⟩
theorem LineAt.gl {H : Hp} {m la : Addr} {kv : List (Key × V)} {g : Nat} {xs : List Int} (S : LineAt H m la kv g xs) : DGet H m (.str ("line" : Str)) (some (.ref la)) := by
  rw [← S.v1]
  exact DGet.k (k := (Sum.inr ("line" : Str) : Key)) S.dc
theorem LineAt.gn {H : Hp} {m la : Addr} {kv : List (Key × V)} {g : Nat} {xs : List Int} (S : LineAt H m la kv g xs) : DGet H m (.str ("next" : Str)) (some (.int (g : Int))) := by
  rw [← S.v2]
  exact DGet.k (k := (Sum.inr ("next" : Str) : Key)) S.dc
def spLPlace (K : PySem.W.Frag) : Sp := fun vs H Q _ => ∃ (a c m la : Addr) (kv : List (Key × V)) (k g : Nat) (ns xs : List Int), vs = [.ref a, .ref m] ∧ StAt K H a c k ns ∧ ns.length ≤ 100 ∧ k ≤ 1000000 ∧ LineAt H m la kv g xs ∧ xs.length ≤ 1000 ∧ a ≠ m ∧
  ∀ (o : Option Int) (H' : Hp), (∀ x, o = some x → x ∈ xs) → (∀ b u, H b = some u → b ≠ a → H' b = some u) → StAt K H' a c (k + 1) ns → Q (oneV o) H'
theorem ok__law_place (T : Txt K mg C CF) (G__law_next : Cal P w K mg base 1 "_law_next" (spNext K) []) : Cal P w K mg base 2 "_law_place" (spLPlace K) [] := by
  obtain ⟨f, fd, F, hm, b⟩ := T.d__law_place.ex
  refine ⟨f, fd, _, _, F.ok sc__law_place (fun vs H Q E h => ?_) (fun cdv A outer s H vs Q E hr h => ?_), hm, F.kp, b, .nil⟩
  · obtain ⟨_, _, _, _, _, _, _, _, _, rfl, _⟩ := h; rfl
  · obtain ⟨a, c, m, la, kv, k, g, ns, xs, rfl, S, hns, hk, L, hx, nam, q⟩ := h
    refine ⟨_, (pss_cons (ps_set (i := 2) sc__law_place.nd rfl (Or.inl rfl) (pe_op op_fdivW (pe_c G__law_next hr (by decide) rfl (pa_cons (pv 0) pa_nil)) pe_int))
      (pss_cons (ps_set (i := 3) sc__law_place.nd rfl (Or.inl rfl) (pe_dget (by exact hu_of hr) (pv 1) pe_str (fun _ _ => rfl)))
      (pss_cons (ps_if (PW.pt (pw_or (pt_cmpR (op_eqD (by exact hu64 hr)) (pv 3) (pe_lst pa_nil) (nomark _)) (pw_or1 (pt_cmpR op_eq (pe_op op_mod (pv 2) pe_int) pe_int (nomark _))))) (pss_one (ps_ret pe_non)) pss_nil)
      (pss_cons (ps_if (pt_cmpR op_lt (pe_op op_mod (pv 2) pe_int) pe_int (nomark _)) (pss_one (ps_ret (pe_ix ix_list (pv 3) pe_int (fun _ _ => rfl)))) pss_nil)
      (pss_cons (ps_if (PW.pt (pw_and (pt_cmpR op_lt (pe_op op_mod (pv 2) pe_int) pe_int (nomark _)) (pw_and1 (pt_cmpR op_in_seq (pe_op op_sub (pe_dget (by exact hu_of hr) (pv 1) pe_str (fun _ _ => rfl)) pe_int) (pv 3) (by rfl))))) (pss_one (ps_ret (pe_op op_sub (pe_dget (by exact hu_of hr) (pv 1) pe_str (fun _ _ => rfl)) pe_int))) pss_nil)
      (pss_one (ps_ret (pe_ix ix_list (pv 3) (pe_op op_mod (pe_op op_fdivW (pv 2) pe_int) (pe_callB (id := "len") call_len_seq (by rfl) T.n_len (by decide +kernel) (pa_cons (pv 3) pa_nil))) (fun _ _ => rfl))))))))), ?_⟩
    refine ⟨_, rfl, a, c, k, ns, rfl, S, hns, hk, fun n H1 hn0 hn1 k1 S1 => ?_⟩
    have L1 : LineAt H1 m la kv g xs := ⟨k1 _ _ L.dc nam.symm, L.v1, L.v2, k1 _ _ L.li (ne_of L.li S.dc (by intro z; cases z))⟩
    refine ⟨_, _, rfl, rfl, ⟨by decide, by decide⟩, ?_⟩
    have hN0 : 0 ≤ n / 3 := by omega
    dsimp only
    generalize n / 3 = N at *
    -- line
    refine ⟨_, rfl, m, _, rfl, L1.gl, ?_⟩
    -- line == [] or n % 9 == 0
    refine ⟨_, rfl, Nat.zero_le _, fun e0 he0 => ?_⟩
    have s2 : Same H1 (upd H1 e0 (.lst [])) := same_new he0
    have hE2 : (upd H1 e0 (.lst [])) e0 = some (.lst []) := upd_same
    have S2 := S1.keep s2
    have L2 := L1.keep (H' := upd H1 e0 (.lst [])) fun b u e _ => s2 b u e
    have k2 : ∀ b u, H b = some u → b ≠ a → (upd H1 e0 (.lst [])) b = some u := fun b u e hb => s2 _ _ (k1 b u e hb)
    generalize upd H1 e0 (.lst []) = H2 at *
    refine ⟨_, _, .lst (SqL.of L2.li) (dp_ints xs), .lst (SqL.of hE2) .nil, shaped_ints xs, rfl, _, rfl, ?_⟩
    rw [eqv_ints_nil]
    cases hxe : xs.isEmpty with
    | true =>
      refine iteT ?_
      refine iteT ?_
      exact q none H2 (fun x e => by cases e) k2 S2
    | false =>
      refine iteF ?_
      have hpos : 0 < xs.length := by
        cases xs with
        | nil => cases hxe
        | cons _ _ => exact Nat.succ_pos _
      have hlen : (xs.map V.int).length = xs.length := List.length_map ..
      have item : ∀ j : Nat, j < xs.length → atI (xs.map V.int) (j : Int) = some (.int (xs.getD j 0)) := fun j hj => atI_nat (getD_at hj)
      refine ⟨_, rfl, _, _, rfl, rfl, by (show (0 : Int) < _; first | decide | omega), rfl, _, rfl, ?_⟩
      refine ite2d (fun _ => q none H2 (fun x e => by cases e) k2 S2) fun _ => ?_
      -- n % 9 < 4
      refine ⟨_, rfl, _, _, rfl, rfl, by (show (0 : Int) < _; first | decide | omega), _, _, rfl, rfl, _, rfl, ?_⟩
      refine ite2d (fun _ => ?_) fun _ => ?_
      · refine ⟨_, rfl, la, _, _, _, rfl, rfl, SqL.of L2.li, item 0 hpos, ?_⟩
        exact q (some (xs.getD 0 0)) H2 (fun x e => by rw [← Option.some.inj e]; exact getD_mem hpos) k2 S2
      have fin : (tOp (rIxL K) (tVar 3) (tOp (rI (fun _ j => 0 < j) fun i j => V.int (i % j)) (tOp (rI CDivW fun i j => V.int (i / j)) (tVar 2) (tC (V.int 9))) (tCB (fun xs H Q => ∃ p ys, xs = [V.ref p] ∧ (SqL K H p ys ∨ SqT K H p ys) ∧ Q (.int ys.length) H) (tCons (tVar 3) tNil)))) [some (.ref a), some (.ref m), some (.int N), some (.ref la)] H2 Q := by
        have hlt : (N / 9 % (xs.length : Int)).toNat < xs.length := by
          have := Int.emod_lt_of_pos (N / 9) (show (0 : Int) < (xs.length : Int) by omega)
          have := Int.emod_nonneg (N / 9) (show (xs.length : Int) ≠ 0 by omega)
          omega
        have e1 : N / 9 % ((xs.map V.int).length : Int) = ((N / 9 % (xs.length : Int)).toNat : Int) := by
          rw [hlen, Int.toNat_of_nonneg (Int.emod_nonneg _ (by omega))]
        refine ⟨_, rfl, _, rfl, _, _, rfl, rfl, ⟨by decide, by decide⟩, _, rfl, la, _, rfl, .inl (SqL.of L2.li), _, _, rfl, rfl, by rw [hlen]; omega, la, _, _, _, rfl, rfl, SqL.of L2.li, by rw [e1]; exact item _ hlt, ?_⟩
        exact q (some (xs.getD (N / 9 % (xs.length : Int)).toNat 0)) H2 (fun x e => by rw [← Option.some.inj e]; exact getD_mem hlt) k2 S2
      -- n % 9 < 6 and m['next'] - 1 in line
      refine ⟨_, rfl, _, _, rfl, rfl, by (show (0 : Int) < _; first | decide | omega), _, _, rfl, rfl, _, rfl, ?_⟩
      refine ite2d (fun _ => ?_) fun _ => ?_
      · refine ⟨_, rfl, m, _, rfl, L2.gn, _, _, rfl, rfl, _, rfl, la, _, rfl, .inl (SqL.of L2.li), rfl, flat_ints xs, _, rfl, ?_⟩
        rw [if_neg Bool.false_ne_true, inV_ints]
        refine ite2d (fun hin => ?_) fun _ => fin
        refine ⟨_, rfl, m, _, rfl, L2.gn, _, _, rfl, rfl, ?_⟩
        exact q (some ((g : Int) - 1)) H2 (fun x e => by rw [← Option.some.inj e]; exact hin) k2 S2
      · refine iteF ?_
        exact fin
theorem eqv_ints (xs : List Int) : PyData.eqv (.list (xs.map PyData.int)) (.list (xs.map PyData.int)) = true := by
  have h : ∀ l : List Int, PyData.eqvAll (l.map PyData.int) (l.map PyData.int) = true := fun l => by
    induction l with
    | nil => simp [PyData.eqvAll]
    | cons a r ih => simp [PyData.eqvAll, PyData.eqv, ih]
  simp only [PyData.eqv]
  exact h xs

def placeO (xs : List Int) : Option Int → Nat
  | none => 0
  | some x => xs.idxOf x + 1
/-- 0 if one is None else line.index(one) + 1 -/
theorem if_place {K : PySem.W.Frag} {σ : L2.St} {H : Hp} {Q : VK} {i j : Nat} {o : Option Int} {xs : List Int} {la : Addr} (hi : σ[i]? = some (some (oneV o))) (hj : σ[j]? = some (some (.ref la))) (hl : H la = some (.lst (xs.map V.int))) (ho : ∀ x, o = some x → x ∈ xs)
    (q : Q (.int ((placeO xs o : Nat) : Int)) H) :
    tIf (tTest (tOp (fun x y H Q => y = .non ∧ Q (.bl (decide (x = .non))) H) (tVar i) (tC .non))) (tC (.int 0)) (tOp (rI0 fun i j => .int (i + j)) (tBM K "list" (rIndex K) (tVar j) (tCons (tVar i) tNil)) (tC (.int 1))) σ H Q := by
  cases o with
  | none =>
    refine ⟨_, hi, rfl, _, rfl, ?_⟩
    exact iteT q
  | some x =>
    have hx := ho x rfl
    obtain ⟨i1, i2⟩ := idx_ok hx
    refine ⟨_, hi, rfl, _, rfl, ?_⟩
    refine iteFd (by intro z; cases z) ?_
    refine ⟨_, hj, .inl ⟨rfl, _, SqL.of hl⟩, _, hi, la, _, _, _, _, rfl, rfl, SqL.of hl, rfl, flat_ints _, i1, beq_self_eq_true x, i2, _, _, rfl, rfl, ?_⟩
    exact q
theorem place_eq (r : R) (o : Option Int) : placeO r.ord o = placeOf r o := by cases o <;> rfl
/-- the line with the new thing in it -/
theorem line_ins {r : R} {n : Nat} : (r.ord.map V.int).take n ++ [V.int (r.given : Int)] ++ (r.ord.map V.int).drop n = (ordIns r n).map V.int := by
  unfold ordIns
  rw [List.map_append, List.map_append, List.map_take, List.map_drop]
  rfl

/-! ### the law's own row: a dict of five -/
def pD (w : Int) (la da : Addr) (g c : Int) : List (Key × V) := [(.inr "wide", .int w), (.inr "line", .ref la), (.inr "marks", .ref da), (.inr "next", .int g), (.inr "coins", .int c)]
theorem kk_ne {a b : Str} (h : ¬ a = b) : ¬ ((Sum.inr a : Key) = Sum.inr b) := fun e => h (Sum.inr.inj e)
theorem k_wl : ¬ Str.ofString "wide" = Str.ofString "line" := by decide +kernel
theorem k_wm : ¬ Str.ofString "wide" = Str.ofString "marks" := by decide +kernel
theorem k_wn : ¬ Str.ofString "wide" = Str.ofString "next" := by decide +kernel
theorem k_wc : ¬ Str.ofString "wide" = Str.ofString "coins" := by decide +kernel
theorem k_lm : ¬ Str.ofString "line" = Str.ofString "marks" := by decide +kernel
theorem k_ln : ¬ Str.ofString "line" = Str.ofString "next" := by decide +kernel
theorem k_lc : ¬ Str.ofString "line" = Str.ofString "coins" := by decide +kernel
theorem k_mn : ¬ Str.ofString "marks" = Str.ofString "next" := by decide +kernel
theorem k_mc : ¬ Str.ofString "marks" = Str.ofString "coins" := by decide +kernel
theorem k_nc : ¬ Str.ofString "next" = Str.ofString "coins" := by decide +kernel
section
variable {w : Int} {la da : Addr} {g c j : Int}
theorem pD_wide : valV (pD w la da g c) (.inr ("wide" : Str) : Key) = some (.int w) := by unfold pD; rw [valV_pos rfl]
theorem pD_line : valV (pD w la da g c) (.inr ("line" : Str) : Key) = some (.ref la) := by unfold pD; rw [valV_neg (kk_ne k_wl), valV_pos rfl]
theorem pD_marks : valV (pD w la da g c) (.inr ("marks" : Str) : Key) = some (.ref da) := by unfold pD; rw [valV_neg (kk_ne k_wm), valV_neg (kk_ne k_lm), valV_pos rfl]
theorem pD_next : valV (pD w la da g c) (.inr ("next" : Str) : Key) = some (.int g) := by unfold pD; rw [valV_neg (kk_ne k_wn), valV_neg (kk_ne k_ln), valV_neg (kk_ne k_mn), valV_pos rfl]
theorem pD_coins : valV (pD w la da g c) (.inr ("coins" : Str) : Key) = some (.int c) := by unfold pD; rw [valV_neg (kk_ne k_wc), valV_neg (kk_ne k_lc), valV_neg (kk_ne k_mc), valV_neg (kk_ne k_nc), valV_pos rfl]
theorem pD_put_next : putK (pD w la da g c) (.inr ("next" : Str) : Key) (.int j) = pD w la da j c := by
  have k_cn : ¬ Str.ofString "coins" = Str.ofString "next" := fun e => k_nc e.symm
  unfold putK pD
  simp [k_wn, k_ln, k_mn, k_cn]
theorem pD_put_coins : putK (pD w la da g c) (.inr ("coins" : Str) : Key) (.int j) = pD w la da g j := by
  unfold putK pD
  simp [k_wc, k_lc, k_mc, k_nc]
theorem pD_new : mergeK [] (pD w la da g c) = pD w la da g c := by
  unfold mergeK pD
  simp [putK, k_wl, k_wm, k_wn, k_wc, k_lm, k_ln, k_lc, k_mn, k_mc, k_nc]
variable {H : Hp} {m : Addr}
theorem gWide (h : H m = some (.dK (pD w la da g c))) : DGet H m (.str ("wide" : Str)) (some (.int w)) := by rw [← pD_wide (w := w) (la := la) (da := da) (g := g) (c := c)]; exact DGet.k (k := (Sum.inr ("wide" : Str) : Key)) h
theorem gLine (h : H m = some (.dK (pD w la da g c))) : DGet H m (.str ("line" : Str)) (some (.ref la)) := by rw [← pD_line (w := w) (la := la) (da := da) (g := g) (c := c)]; exact DGet.k (k := (Sum.inr ("line" : Str) : Key)) h
theorem gMarks (h : H m = some (.dK (pD w la da g c))) : DGet H m (.str ("marks" : Str)) (some (.ref da)) := by rw [← pD_marks (w := w) (la := la) (da := da) (g := g) (c := c)]; exact DGet.k (k := (Sum.inr ("marks" : Str) : Key)) h
theorem gNext (h : H m = some (.dK (pD w la da g c))) : DGet H m (.str ("next" : Str)) (some (.int g)) := by rw [← pD_next (w := w) (la := la) (da := da) (g := g) (c := c)]; exact DGet.k (k := (Sum.inr ("next" : Str) : Key)) h
theorem gCoins (h : H m = some (.dK (pD w la da g c))) : DGet H m (.str ("coins" : Str)) (some (.int c)) := by rw [← pD_coins (w := w) (la := la) (da := da) (g := g) (c := c)]; exact DGet.k (k := (Sum.inr ("coins" : Str) : Key)) h
theorem sNext (h : H m = some (.dK (pD w la da g c))) : DPut H m (.str ("next" : Str)) (.int j) (upd H m (.dK (pD w la da j c))) := by
  have e := DPut.k (k := (Sum.inr ("next" : Str) : Key)) (v := V.int j) h (smallL (by show 5 ≤ 100000; decide))
  rw [pD_put_next] at e
  exact e
theorem sCoins (h : H m = some (.dK (pD w la da g c))) : DPut H m (.str ("coins" : Str)) (.int j) (upd H m (.dK (pD w la da g j))) := by
  have e := DPut.k (k := (Sum.inr ("coins" : Str) : Key)) (v := V.int j) h (smallL (by show 5 ≤ 100000; decide))
  rw [pD_put_coins] at e
  exact e
end
/-! ### d.update(e), another dict -/
def rDUpdate : V → List V → Hp → VK → Prop := fun x vs H Q => ∃ (a b : Addr) (kvs more : List (Key × V)), x = .ref a ∧ vs = [.ref b] ∧ a ≠ b ∧ H a = some (.dK kvs) ∧ H b = some (.dK more) ∧ kvs.length + more.length ≤ sizeLine ∧ Q .non (upd H a (.dK (mergeK kvs more)))
theorem mtd_update {X : Cx} : MtR X "dict.update" rDUpdate := by
  intro pins s σ H x vs v us Q I rx rv h
  obtain ⟨a, b, kvs, more, rfl, rfl, hab, ha, hb, hz, q⟩ := h
  obtain rfl : v = Value.ref a := rx
  obtain ⟨u, rfl, ru⟩ := rv.one
  obtain rfl : u = Value.ref b := ru
  obtain ⟨_, n1, vs1, k1, d1⟩ := dk_of I.hok ha
  obtain ⟨_, n2, vs2, k2, d2⟩ := dk_of I.hok hb
  refine call_meetsIn PySem.F.slot_dict_update d1.typeIs PySem.F.entry_dict_update (PySem.F.args_dict_update_2 _ _) (meets_dict_update (mixKind X.prog X.w) a b hab n2) ⟨vs1, vs2, d1, d2, by rw [← k1.length, ← k2.length]; exact hz, fun h' d' _ hs => ?_⟩
  have there : ∃ o, h'.get? a = some o := let ⟨o, _, _, e, _⟩ := d'; ⟨o, e⟩
  have hl : (mergeK kvs more).length ≤ sizeLine := Nat.le_trans (length_mergeK more kvs) hz
  exact ⟨.non, _, d_write (t' := s.toks) I (by rw [ha]; exact True.intro) hs there (dk_new hl n1 (k2.merge k1) d'), rfl, q⟩
/-! ### begun -/
def spBegun : Sp := fun vs H Q _ => ∃ w : Int, vs = [.int w] ∧ ∀ H' m la da, Same H H' → H m = none → H la = none → H da = none → m ≠ la → m ≠ da → la ≠ da → H' m = some (.dK (pD w la da 0 0)) → H' la = some (.lst []) → H' da = some (.dK []) → Q (.ref m) H'
theorem ok_begun (T : Txt K mg C CF) : Cal P w K mg base 1 "_law_begun" spBegun [] := by
  obtain ⟨f, fd, F, hm, b⟩ := T.d__law_begun.ex
  refine ⟨f, fd, _, _, F.ok sc__law_begun (fun vs H Q E h => ?_) (fun cdv A outer s H vs Q E hr h => ?_), hm, F.kp, b, .nil⟩
  · obtain ⟨_, rfl, _⟩ := h; rfl
  · obtain ⟨wd, rfl, k⟩ := h
    refine ⟨_, (pss_one (ps_ret (pe_disp (pps_cons pe_str (pv 0) (pps_cons pe_str (pe_lst pa_nil) (pps_cons pe_str pe_dnewK (pps_cons pe_str pe_int (pps_cons pe_str pe_int pps_nil))))) (by rfl) (by rfl) (fun z => by cases z) (by decide)))), ?_⟩
    refine fun m hm => ⟨_, rfl, Nat.zero_le _, fun la hla => fun da hda => ⟨?_, pD wd la da 0 0, rfl, by show 5 ≤ 15; decide, ?_⟩⟩
    · have n1 : m ≠ la := ne_of_none upd_same hla
      have n2 : m ≠ da := ne_of_none (same_new (o := .lst []) hla _ _ upd_same) hda
      rw [upd_ne n2, upd_ne n1, upd_same]
    · rw [pD_new]
      have n1 : m ≠ la := ne_of_none upd_same hla
      have n2 : m ≠ da := ne_of_none (same_new (o := .lst []) hla _ _ upd_same) hda
      have n3 : la ≠ da := ne_of_none upd_same hda
      have s1 : Same H (upd H m (.dK [])) := same_new hm
      have s2 := s1.trans (same_new (o := .lst []) hla)
      have s3 := s2.trans (same_new (o := .dK []) hda)
      refine k _ m la da (fun b u e => ?_) hm (s1.free hla) (s2.free hda) n1 n2 n3 upd_same ?_ ?_
      · rw [upd_ne (ne_of_none e hm)]
        exact s3 _ _ e
      · rw [upd_ne n1.symm, upd_ne n3, upd_same]
      · rw [upd_ne n2.symm, upd_same]
/-! ### taken -/
def spTaken : Sp := fun vs H Q _ => ∃ (m la da : Addr) (w g c : Int) (r : R) (x : Int), vs = [.ref m, .int x] ∧ Good r ∧ x ∈ r.ord ∧ H m = some (.dK (pD w la da g c)) ∧ H la = some (.lst (r.ord.map V.int)) ∧ (∃ kvs, H da = some (.dK kvs) ∧ kvs.length ≤ r.given ∧ DictIs kvs r.ord r.mrk) ∧ m ≠ da ∧
  ∀ kvs', kvs'.length ≤ r.given → DictIs kvs' (takeR r x).ord r.mrk → Q .non (upd (upd H la (.lst ((takeR r x).ord.map V.int))) da (.dK kvs'))
theorem ok_taken (T : Txt K mg C CF) : Cal P w K mg base 1 "_law_taken" spTaken [] := by
  obtain ⟨f, fd, F, hm, b⟩ := T.d__law_taken.ex
  refine ⟨f, fd, _, _, F.ok sc__law_taken (fun vs H Q E h => ?_) (fun cdv A outer s H vs Q E hr h => ?_), hm, F.kp, b, .nil⟩
  · obtain ⟨_, _, _, _, _, _, _, _, rfl, _⟩ := h; rfl
  · obtain ⟨m, la, da, wd, g, c, r, x, rfl, G, hx, hM, hL, ⟨kvs, hD, hn, D⟩, nmd, k⟩ := h
    refine ⟨_, (pss_cons (ps_expr (pe_bm PySem.F.plainAttrs_list PySem.F.slot_list_remove PySem.F.type_list_remove mt_remove (pe_dget (by exact hu_of hr) (pv 0) pe_str (fun _ _ => rfl)) (pa_cons (pv 1) pa_nil)))
      (pss_one (ps_expr (pe_dpop1 (pe_dget (by exact hu_of hr) (pv 0) pe_str (fun _ _ => rfl)) (pv 1) ⟨by rfl, by rfl, by rfl, by rfl⟩)))), ?_⟩
    obtain ⟨m1, m2, m3⟩ := rem_ok hx
    refine ⟨_, rfl, m, _, rfl, gLine hM, .inl ⟨rfl, _, SqL.of hL⟩, _, rfl, la, r.ord, x, _, rfl, rfl, hL, m1, m2, ?_⟩
    rw [m3]
    have nml : m ≠ la := (ne_of hL hM (by intro z; cases z)).symm
    have ndl : da ≠ la := (ne_of hL hD (by intro z; cases z)).symm
    have hM2 : (upd H la (.lst ((r.ord.erase x).map V.int))) m = some (.dK (pD wd la da g c)) := by rw [upd_ne nml]; exact hM
    have hD2 : (upd H la (.lst ((r.ord.erase x).map V.int))) da = some (.dK kvs) := by rw [upd_ne ndl]; exact hD
    have hv : valV kvs (Sum.inl x) = some (.int (r.mrk x)) := by rw [D.get, if_pos hx]
    refine ⟨_, rfl, m, _, rfl, gMarks hM2, da, rfl, .inl ⟨_, .inl hD2⟩, _, rfl, kvs, Sum.inl x, _, hD2, rfl, hv, ?_⟩
    refine k _ (Nat.le_trans (dropK_le ..) hn) ⟨nd_dropK D.nd, fun y => ?_⟩
    rw [valV_drop, D.get]
    show _ = if y ∈ r.ord.erase x then some (V.int (r.mrk y)) else none
    by_cases e : y = x
    · rw [if_pos (by rw [e]), if_neg]
      rw [G.nd.mem_erase_iff]
      exact fun z => z.1 e
    · rw [if_neg (fun z => e (Sum.inl.inj z))]
      have e2 : y ∈ r.ord.erase x ↔ y ∈ r.ord := by
        rw [G.nd.mem_erase_iff]
        exact ⟨fun z => z.2, fun z => ⟨e, z⟩⟩
      simp only [e2]
/-! ### all alike -/
def spAlike (C : Addr) : Sp := fun vs H Q _ => ∃ (p l d m la da : Addr) (w g : Int) (r : R) (kvs : List (Key × V)), vs = [.ref p, .ref m] ∧ RowAt C H p l d r ∧ Good r ∧ H m = some (.dK (pD w la da g r.purse)) ∧ H la = some (.lst (r.ord.map V.int)) ∧ H da = some (.dK kvs) ∧ DictIs kvs r.ord r.mrk ∧ ∀ H', Same H H' → Q (.bl true) H'
theorem ok_alike (T : Txt K mg C CF) (M_mark : Met P w K mg base 2 C "mark" (spMark C) []) (M_things : Met P w K mg base 1 C "things" (spThings C) []) (M_purse : Met P w K mg base 1 C "purse" (spPurse C) []) : Cal P w K mg base 3 "_law_alike" (spAlike C) [] := by
  obtain ⟨f, fd, F, hm, b⟩ := T.d__law_alike.ex
  refine ⟨f, fd, _, _, F.ok sc__law_alike (fun vs H Q E h => ?_) (fun cdv A outer s H vs Q E hr h => ?_), hm, F.kp, b, .nil⟩
  · obtain ⟨_, _, _, _, _, _, _, _, _, _, rfl, _⟩ := h; rfl
  · obtain ⟨p, l, d, m, la, da, wd, g, r, kvs, rfl, W, G, hM, hL, hD, D, k⟩ := h
    refine ⟨_, (pss_cons (ps_if (PW.pt (pw_or (pt_cmpR (op_neD (by exact hu64 hr)) (pe_mt0 M_things hr (by decide) (pv 0)) (pe_dget (by exact hu_of hr) (pv 1) pe_str (fun _ _ => rfl)) (nomark _)) (pw_or (pt_cmpR op_ne (pe_mt0 M_purse hr (by decide) (pv 0)) (pe_dget (by exact hu_of hr) (pv 1) pe_str (fun _ _ => rfl)) (nomark _)) (pw_or1 (pt_val (pe_callB (id := "isinstance") call_isi (by rfl) T.n_isinstance (by decide +kernel) (pa_cons (pe_mt0 M_purse hr (by decide) (pv 0)) (pa_cons (pe_bltn (v := .ty "bool") (by rfl) T.n_bool (by decide +kernel) rfl) pa_nil)))))))) (pss_one (ps_ret pe_bl)) pss_nil)
      (pss_one (ps_ret (pe_cmpR (op_eqD (by exact hu64 hr)) (pe_lc (own := [("_law_one", 2)]) (g := (gName 2)) (by rfl) sc__law_alike.nd (pi_list (pe_dget (by exact hu_of hr) (pv 1) pe_str (fun _ _ => rfl))) (blkOk_by (own := [("_law_one", 2)]) (N := ["_law_row", "_law_m", "_law_one"]) (sc := defScope s__law_alike) (by decide +kernel)) (fun _ _ _ _ _ => (pg_name (i := 2) sc__law_alike.nd rfl (Or.inl rfl))) (fun _ _ _ _ _ => pts_nil) (fun _ _ _ _ _ => (pe_mt M_mark hr (by decide) (pv 0) (pa_cons (pv 2) pa_nil)))) (pe_lc (own := [("_law_one", 2)]) (g := (gName 2)) (by rfl) sc__law_alike.nd (pi_list (pe_dget (by exact hu_of hr) (pv 1) pe_str (fun _ _ => rfl))) (blkOk_by (own := [("_law_one", 2)]) (N := ["_law_row", "_law_m", "_law_one"]) (sc := defScope s__law_alike) (by decide +kernel)) (fun _ _ _ _ _ => (pg_name (i := 2) sc__law_alike.nd rfl (Or.inl rfl))) (fun _ _ _ _ _ => pts_nil) (fun _ _ _ _ _ => (pe_dget (by exact hu_of hr) (pe_dget (by exact hu_of hr) (pv 1) pe_str (fun _ _ => rfl)) (pv 2) (fun _ _ => rfl)))) (nomark _))))), ?_⟩
    have hlen := G.len
    obtain ⟨dx, hob⟩ := W.ob
    refine ⟨_, rfl, p, dx, _, rfl, hob, rfl, p, l, d, r, rfl, W, fun q1 hq1 => ?_⟩
    have s1 : Same H (upd H q1 (.lst (r.ord.map V.int))) := same_new hq1
    refine ⟨_, rfl, m, _, rfl, gLine (s1 _ _ hM), _, _, .lst (SqL.of upd_same) (dp_ints _), .lst (SqL.of (s1 _ _ hL)) (dp_ints _), shaped_ints _, shaped_ints _, _, rfl, ?_⟩
    rw [eqv_ints]
    refine iteF ?_
    refine ⟨_, rfl, p, dx, _, rfl, s1 _ _ hob, rfl, p, l, d, r, rfl, W.keep s1, _, rfl, m, _, rfl, gCoins (s1 _ _ hM), rfl, _, rfl, ?_⟩
    refine iteNS rfl ?_
    refine ⟨_, rfl, p, dx, _, rfl, s1 _ _ hob, rfl, p, l, d, r, rfl, W.keep s1, _, _, _, _, false, rfl, .ty "bool", .base (.int _), kit_ty (by decide +kernel), _, rfl, ?_⟩
    refine iteF ?_
    -- the marks
    refine ⟨_, rfl, m, _, rfl, gLine (s1 _ _ hM), la, rfl, ⟨_, SqL.of (s1 _ _ hL)⟩, fun D1 hD1 => ?_⟩
    refine lc_list (K := K) (a := la) (xs := (r.ord).map V.int) (fun j H' => H' = upd (upd H q1 (.lst (r.ord.map V.int))) D1 (.lst ((((r.ord).take j).map (r).mrk).map V.int))) rfl (fun j H' _ e => by rw [e]; exact (same_new hD1).seq (SqL.of (s1 _ _ hL))) ?_ ?_
    · rintro j x H' hj rfl
      obtain ⟨z, hz, rfl⟩ : ∃ z, (r.ord)[j]? = some z ∧ x = V.int z := by
        rw [List.getElem?_map] at hj
        cases e : (r.ord)[j]? with
        | none => rw [e] at hj; cases hj
        | some z => rw [e] at hj; exact ⟨z, rfl, (Option.some.inj hj).symm⟩
      have Wx := ((W.keep s1)).keep (same_new (o := .lst ((((r.ord).take j).map (r).mrk).map V.int)) hD1)
      obtain ⟨dx2, ho2⟩ := Wx.ob
      refine ⟨rfl, _, rfl, p, dx2, _, rfl, ho2, rfl, _, rfl, p, l, d, r, z, rfl, Wx, (fun z hz => hz) z (List.mem_of_getElem? hz), ?_⟩
      refine ⟨_, upd_same, smallL (by rw [List.length_map, List.length_map]; have := List.length_take_le' j (r.ord); omega), ?_⟩
      rw [upd_upd, List.take_add_one, hz, List.map_append, List.map_append]
      rfl
    rintro HX rfl
    rw [List.length_map, List.take_length]
    have s2 := s1.trans (same_new (o := .lst ((r.ord.map r.mrk).map V.int)) hD1)
    have hK2 : (upd (upd H q1 (.lst (r.ord.map V.int))) D1 (.lst ((r.ord.map r.mrk).map V.int))) D1 = some (.lst ((r.ord.map r.mrk).map V.int)) := upd_same
    generalize upd (upd H q1 (.lst (r.ord.map V.int))) D1 (.lst ((r.ord.map r.mrk).map V.int)) = H2 at *
    refine ⟨_, rfl, m, _, rfl, gLine (s2 _ _ hM), la, rfl, ⟨_, SqL.of (s2 _ _ hL)⟩, fun D2 hD2 => ?_⟩
    refine lc_list (K := K) (a := la) (xs := r.ord.map V.int) (fun j H' => H' = upd H2 D2 (.lst (((r.ord.take j).map r.mrk).map V.int))) rfl (fun j H' _ e => by rw [e]; exact (same_new hD2).seq (SqL.of (s2 _ _ hL))) ?_ ?_
    · rintro j x H' hj rfl
      obtain ⟨z, hz, rfl⟩ : ∃ z, r.ord[j]? = some z ∧ x = V.int z := by
        rw [List.getElem?_map] at hj
        cases e : r.ord[j]? with
        | none => rw [e] at hj; cases hj
        | some z => rw [e] at hj; exact ⟨z, rfl, (Option.some.inj hj).symm⟩
      have sx := s2.trans (same_new (o := .lst (((r.ord.take j).map r.mrk).map V.int)) hD2)
      have hv : valV kvs (Sum.inl z) = some (.int (r.mrk z)) := by rw [D.get, if_pos (List.mem_of_getElem? hz)]
      refine ⟨rfl, _, rfl, m, _, rfl, gMarks (sx _ _ hM), _, rfl, da, _, rfl, by rw [← hv]; exact DGet.k (k := Sum.inl z) (sx _ _ hD), ?_⟩
      refine ⟨_, upd_same, smallL (by rw [List.length_map, List.length_map]; have := List.length_take_le' j r.ord; omega), ?_⟩
      rw [upd_upd, List.take_add_one, hz, List.map_append, List.map_append]
      rfl
    rintro H3 rfl
    rw [List.length_map, List.take_length]
    have s3 := same_new (o := .lst ((r.ord.map r.mrk).map V.int)) hD2
    refine ⟨_, _, .lst (SqL.of (s3 _ _ hK2)) (dp_ints _), .lst (SqL.of upd_same) (dp_ints _), shaped_ints _, shaped_ints _, ?_⟩
    rw [eqv_ints]
    exact k _ (s2.trans s3)

/-! ### the law's own putting: the mathematics -/
theorem int_of {xs : List Int} {i : Nat} {x : V} (h : (xs.map V.int)[i]? = some x) : ∃ y, xs[i]? = some y ∧ x = V.int y := by
  rw [List.getElem?_map] at h
  cases e : xs[i]? with
  | none => rw [e] at h; cases h
  | some y => rw [e] at h; exact ⟨y, rfl, (Option.some.inj h).symm⟩
theorem base_div {m : Int} {L : Nat} : baseM m L / 2 ^ L = m / 2 ^ L := Int.mul_ediv_cancel _ (Int.ne_of_gt (two_pow_pos L))
theorem lie_iff {r : R} {mm : Int} {L : Nat} {x : Int} : r.mrk x / 2 ^ L = mm / 2 ^ L ↔ lies r L (baseM mm L) x = true := by
  have hp := two_pow_pos L
  rw [lies_iff]
  unfold baseM
  generalize mm / 2 ^ L = q
  generalize (2 : Int) ^ L = s at *
  generalize r.mrk x = y
  constructor
  · rintro rfl
    have h1 := Int.ediv_mul_le y (Int.ne_of_gt hp)
    have h2 := Int.lt_ediv_add_one_mul_self y hp
    rw [Int.add_mul, Int.one_mul] at h2
    exact ⟨h1, h2⟩
  · rintro ⟨h1, h2⟩
    have g1 : q ≤ y / s := (Int.le_ediv_iff_mul_le hp).mpr h1
    have g2 : y / s < q + 1 := (Int.ediv_lt_iff_lt_mul hp).mpr (by rw [Int.add_mul, Int.one_mul]; exact h2)
    omega
def kvOf (q : Int × Int) : Key × V := (.inl q.1, .int q.2)
theorem kv_none {qs : List (Int × Int)} {x : Int} (h : ¬ x ∈ qs.map (·.1)) : valV (qs.map kvOf) (.inl x) = none := by
  induction qs with
  | nil => exact valV_nil ..
  | cons q qs ih =>
    rw [List.map_cons, List.mem_cons, not_or] at h
    rw [List.map_cons, valV_neg (fun e => h.1 (Sum.inl.inj e).symm), ih h.2]
theorem kv_at {qs : List (Int × Int)} (hn : (qs.map (·.1)).Nodup) {i : Nat} {q : Int × Int} (h : qs[i]? = some q) : valV (qs.map kvOf) (.inl q.1) = some (.int q.2) := by
  induction qs generalizing i with
  | nil => simp at h
  | cons p qs ih =>
    rw [List.map_cons, List.nodup_cons] at hn
    cases i with
    | zero =>
      have e : p = q := Option.some.inj h
      subst e
      rw [List.map_cons, valV_pos (show (kvOf p).1 = Sum.inl p.1 from rfl)]
      rfl
    | succ i =>
      have h2 : qs[i]? = some q := h
      have hm : q.1 ∈ qs.map (·.1) := List.mem_map_of_mem (List.mem_of_getElem? h2)
      have hne : ¬ (kvOf p).1 = (Sum.inl q.1 : Key) := fun e => hn.1 ((Sum.inl.inj e) ▸ hm)
      rw [List.map_cons, valV_neg hne, ih hn.2 h2]
theorem kv_put {qs : List (Int × Int)} {q : Int × Int} (h : ¬ q.1 ∈ qs.map (·.1)) : putK (qs.map kvOf) (.inl q.1) (.int q.2) = (qs ++ [q]).map kvOf := by
  rw [putK_new _ (kv_none h), List.map_append]
  rfl
theorem dmid_all {r : R} (G : Good r) : ∀ (qs p : List (Int × Int)) (kvs : List (Key × V)), DMid r p kvs → (∀ q ∈ qs, q.1 = (r.given : Int) ∨ q.1 ∈ r.ord) → DMid r (p ++ qs) (mergeK kvs (qs.map kvOf))
  | [], p, kvs, D, _ => by rw [List.append_nil]; exact D
  | q :: qs, p, kvs, D, h => by
    have D2 := D.step G (q := q) (h q (List.mem_cons_self ..))
    have := dmid_all G qs (p ++ [q]) _ D2 fun x hx => h x (List.mem_cons_of_mem _ hx)
    rw [List.append_assoc] at this
    exact this
theorem marked_nd {r : R} (G : Good r) {n : Nat} {st : Option (Nat × Int)} {marked : List (Int × Int)} (h : marksFor r n = some (st, marked)) : (marked.map (·.1)).Nodup := by
  unfold marksFor at h
  split at h
  · cases h
    exact List.nodup_cons.mpr ⟨List.not_mem_nil, List.nodup_nil⟩
  · split at h
    · cases h
    · rename_i L hL
      cases h
      rw [List.map_fst_zip (by rw [spread_length]; exact Nat.le_refl _)]
      exact (ins_nd G).filter _
/-- the law's own row stands: its dict at m, its line at la, its marks at da -/
structure PAt (H : Hp) (m la da : Addr) (r : R) : Prop where
  dc : H m = some (.dK (pD (r.wide : Int) la da (r.given : Int) r.purse))
  li : H la = some (.lst (r.ord.map V.int))
  di : ∃ kvs, H da = some (.dK kvs) ∧ kvs.length ≤ r.given ∧ DictIs kvs r.ord r.mrk
  ne : m ≠ da
theorem PAt.keep {H H' : Hp} {m la da : Addr} {r : R} (S : PAt H m la da r) (e : Same H H') : PAt H' m la da r := ⟨e _ _ S.dc, e _ _ S.li, let ⟨kvs, h, q⟩ := S.di; ⟨kvs, e _ _ h, q⟩, S.ne⟩
def spLPut : Sp := fun vs H Q _ => ∃ (m la da : Addr) (r : R) (o : Option Int), vs = [.ref m, oneV o] ∧ PAt H m la da r ∧ Good r ∧ (∀ x, o = some x → x ∈ r.ord) ∧ r.ord.length < 200 ∧ r.given < 100000 ∧
  (marksFor r (placeOf r o) = none → ∀ H', Same H H' → Q .non H') ∧
  (∀ st marked, marksFor r (placeOf r o) = some (st, marked) → ∀ H' t ca cas stv, (∀ b u, H b = some u → b ≠ m → b ≠ la → b ≠ da → H' b = some u) → PAt H' m la da (putR r (placeOf r o) marked) → Told H' t ca cas stv r.given st (changedOf r marked) → Q (.ref t) H')
/-- the stretch found so far, from the widest level down -/
def Fnd (r : R) (mm : Int) (i : Nat) (stv : V) (H : Hp) : Prop := (stv = .non ∧ ∀ j, r.wide < j + i → j ≤ r.wide → fits r mm j = false) ∨
  ∃ (t : Addr) (L : Nat), stv = .ref t ∧ H t = some (.tup [.int (L : Int), .int (baseM mm L)]) ∧ r.wide < L + i ∧ L ≤ r.wide ∧ fits r mm L = true ∧ ∀ j, r.wide < j + i → j < L → fits r mm j = false
theorem Fnd.keep {r : R} {mm : Int} {i : Nat} {stv : V} {H H' : Hp} (F : Fnd r mm i stv H) (e : Same H H') : Fnd r mm i stv H' := by
  rcases F with h | ⟨t, L, h1, h2, h3⟩
  · exact .inl h
  · exact .inr ⟨t, L, h1, e _ _ h2, h3⟩
theorem Fnd.miss {r : R} {mm : Int} {i lv : Nat} {stv : V} {H : Hp} (F : Fnd r mm i stv H) (hl : lv + i = r.wide) (h : fits r mm lv = false) : Fnd r mm (i + 1) stv H := by
  rcases F with ⟨h1, h2⟩ | ⟨t, L, h1, h2, h3, h4, h5, h6⟩
  · refine .inl ⟨h1, fun j g1 g2 => ?_⟩
    by_cases e : j = lv
    · rw [e]; exact h
    · exact h2 j (by omega) g2
  · refine .inr ⟨t, L, h1, h2, by omega, h4, h5, fun j g1 g2 => ?_⟩
    by_cases e : j = lv
    · rw [e]; exact h
    · exact h6 j (by omega) g2
theorem Fnd.hit {r : R} {mm : Int} {i lv : Nat} {t : Addr} {H : Hp} (hl : lv + i = r.wide) (h : fits r mm lv = true) (ht : H t = some (.tup [.int (lv : Int), .int (baseM mm lv)])) : Fnd r mm (i + 1) (.ref t) H :=
  .inr ⟨t, lv, rfl, ht, by omega, by omega, h, fun j g1 g2 => by omega⟩
theorem ok_lput (T : Txt K mg C CF) (G__law_too_many : Cal P w K mg base 1 "_law_too_many" spLawToo []) : Cal P w K mg base 2 "_law_put" spLPut [] := by
  obtain ⟨f, fd, F, hm, b⟩ := T.d__law_put.ex
  refine ⟨f, fd, _, _, F.ok sc__law_put (fun vs H Q E h => ?_) (fun cdv A outer s H vs Q E hr h => ?_), hm, F.kp, b, .nil⟩
  · obtain ⟨_, _, _, _, _, rfl, _⟩ := h; rfl
  · obtain ⟨m, la, da, r, o, rfl, S, G, ho, h200, hg, kN, kS⟩ := h
    refine ⟨_, (pss_cons (ps_asg (pe_tup (pa_cons (pe_dget (by exact hu_of hr) (pv 0) pe_str (fun _ _ => rfl)) (pa_cons (pe_dget (by exact hu_of hr) (pv 0) pe_str (fun _ _ => rfl)) pa_nil))) (pg_tup rfl (pgs_cons (pg_name (i := 2) sc__law_put.nd rfl (Or.inl rfl)) (pgs_cons (pg_name (i := 3) sc__law_put.nd rfl (Or.inr rfl)) pgs_nil))))
      (pss_cons (ps_set (i := 4) sc__law_put.nd rfl (Or.inl rfl) (pe_ifExp (pt_cmpR op_isN (pv 1) pe_non (nomark _)) pe_int (pe_op op_add (pe_bm PySem.F.plainAttrs_list PySem.F.slot_list_index PySem.F.type_list_index mt_index (pv 2) (pa_cons (pv 1) pa_nil)) pe_int)))
      (pss_cut (ps_set (i := 5) sc__law_put.nd rfl (Or.inl rfl) (pe_ifExp (pt_cmpR op_gt (pv 4) pe_int (nomark _)) (pe_dget (by exact hu_of hr) (pv 3) (pe_ix ix_list (pv 2) (pe_op op_sub (pv 4) pe_int) (fun _ _ => rfl)) (fun _ _ => rfl)) (pe_un un_neg pe_int)))
      (pss_cut (ps_set (i := 6) sc__law_put.nd rfl (Or.inl rfl) (pe_ifExp (pt_cmpR op_lt (pv 4) (pe_callB (id := "len") call_len_seq (by rfl) T.n_len (by decide +kernel) (pa_cons (pv 2) pa_nil)) (nomark _)) (pe_dget (by exact hu_of hr) (pv 3) (pe_ix ix_list (pv 2) (pv 4) (fun _ _ => rfl)) (fun _ _ => rfl)) (pe_op op_shl pe_int (pe_dget (by exact hu_of hr) (pv 0) pe_str (fun _ _ => rfl)))))
      (pss_cons (ps_set (i := 7) sc__law_put.nd rfl (Or.inr rfl) (pe_dget (by exact hu_of hr) (pv 0) pe_str (fun _ _ => rfl)))
      (pss_cons (ps_set (i := 8) sc__law_put.nd rfl (Or.inr rfl) pe_non)
      (pss_cons (ps_set (i := 9) sc__law_put.nd rfl (Or.inr rfl) (pe_disp (pps_cons (pv 7) (pe_op op_fdivW (pe_op op_add (pv 5) (pv 6)) pe_int) pps_nil) (by rfl) (by rfl) (fun z => by cases z) (by decide)))
      (pss_cut (ps_if (pt_cmpR op_lt (pe_op op_sub (pv 6) (pv 5)) pe_int (nomark _)) (pss_cons (ps_for PassesOwn.never rfl (pi_range3 (by rfl) T.n_range (pa_cons (pe_dget (by exact hu_of hr) (pv 0) pe_str (fun _ _ => rfl)) (pa_cons (pe_un un_neg pe_int) (pa_cons (pe_un un_neg pe_int) pa_nil)))) (pg_name (i := 10) sc__law_put.nd rfl (Or.inl rfl))
        (pss_cons (ps_set (i := 11) sc__law_put.nd rfl (Or.inr rfl) (pe_op op_shl pe_int (pv 10)))
      (pss_cons (ps_set (i := 12) sc__law_put.nd rfl (Or.inr rfl) (pe_op op_mulW (pe_op op_fdivW (pe_callB (id := "max") (call_max2 rfl) (by rfl) T.n_max (by decide +kernel) (pa_cons (pv 5) (pa_cons pe_int pa_nil))) (pv 11)) (pv 11)))
      (pss_cons (ps_setLc (i := 14) (own := [("_law_thing", 13)]) (g := (gName 13)) rfl sc__law_put.nd rfl rfl (sw_true rfl rfl rfl (by decide +kernel)) (pi_list (pv 2)) (blkOk_by (own := [("_law_thing", 13)]) (N := ["_law_m", "_law_one", "_law_line", "_law_marks", "_law_at", "_law_low", "_law_high", "_law_number", "_law_stretch", "_law_fresh", "_law_level", "_law_size", "_law_start", "_law_thing", "_law_some", "_law_place_here", "_law_changed"]) (sc := defScope s__law_put) (by decide +kernel)) (fun _ _ _ _ _ => (pg_name (i := 13) sc__law_put.nd rfl (Or.inl rfl))) (fun _ _ _ _ _ => pts_one (by exact (pt_cmpR (ta := tOp (rI CDivW fun i j => V.int (i / j)) (tDGet (tVar 3) (tVar 13)) (tVar 11)) op_eq (by exact pe_op op_fdivW (by exact pe_dget (by exact hu_of hr) (pv 3) (pv 13) (fun _ _ => rfl)) (pv 11)) (pe_op op_fdivW (pv 12) (pv 11)) (nomark _)))) (fun _ _ _ _ _ => (pv 13)))
      (pss_one (ps_if (pt_not (pt_val (pe_c G__law_too_many hr (by decide) rfl (pa_cons (pv 10) (pa_cons (pe_op op_add (pe_callB (id := "len") call_len_seq (by rfl) T.n_len (by decide +kernel) (pa_cons (pv 14) pa_nil)) pe_int) pa_nil))))) (pss_one (ps_set (i := 8) sc__law_put.nd rfl (Or.inr rfl) (pe_tup (pa_cons (pv 10) (pa_cons (pv 12) pa_nil))))) pss_nil))))))
      (pss_cons (ps_if (pt_cmpR op_isN (pv 8) pe_non (nomark _)) (pss_one (ps_ret pe_non)) pss_nil)
      (pss_cons (ps_set (i := 11) sc__law_put.nd rfl (Or.inr rfl) (pe_op op_shl pe_int (pe_ix ix_tup (pv 8) pe_int (fun _ _ => rfl))))
      (pss_cons (ps_set (i := 14) sc__law_put.nd rfl (Or.inl rfl) (pe_op op_cat (pe_lc (own := [("_law_thing", 13)]) (g := (gName 13)) (by rfl) sc__law_put.nd (pi_list (pe_slice sl_list (pv 2) po_none (po_some (pv 4)))) (blkOk_by (own := [("_law_thing", 13)]) (N := ["_law_m", "_law_one", "_law_line", "_law_marks", "_law_at", "_law_low", "_law_high", "_law_number", "_law_stretch", "_law_fresh", "_law_level", "_law_size", "_law_start", "_law_thing", "_law_some", "_law_place_here", "_law_changed"]) (sc := defScope s__law_put) (by decide +kernel)) (fun _ _ _ _ _ => (pg_name (i := 13) sc__law_put.nd rfl (Or.inl rfl))) (fun _ _ _ _ _ => pts_one (by exact (pt_cmpR (ta := tOp (rI CDivW fun i j => V.int (i / j)) (tDGet (tVar 3) (tVar 13)) (tVar 11)) op_eq (by exact pe_op op_fdivW (by exact pe_dget (by exact hu_of hr) (pv 3) (pv 13) (fun _ _ => rfl)) (pv 11)) (pe_op op_fdivW (pe_ix (ix_tupK (K := K) rfl) (pv 8) pe_int (fun _ _ => rfl)) (pv 11)) (nomark _)))) (fun _ _ _ _ _ => (pv 13))) (pe_lst (pa_cons (pv 7) pa_nil))))
      (pss_cons (ps_set (i := 14) sc__law_put.nd rfl (Or.inl rfl) (pe_op op_cat (pv 14) (pe_lc (own := [("_law_thing", 13)]) (g := (gName 13)) (by rfl) sc__law_put.nd (pi_list (pe_slice sl_list (pv 2) (po_some (pv 4)) po_none)) (blkOk_by (own := [("_law_thing", 13)]) (N := ["_law_m", "_law_one", "_law_line", "_law_marks", "_law_at", "_law_low", "_law_high", "_law_number", "_law_stretch", "_law_fresh", "_law_level", "_law_size", "_law_start", "_law_thing", "_law_some", "_law_place_here", "_law_changed"]) (sc := defScope s__law_put) (by decide +kernel)) (fun _ _ _ _ _ => (pg_name (i := 13) sc__law_put.nd rfl (Or.inl rfl))) (fun _ _ _ _ _ => pts_one (by exact (pt_cmpR (ta := tOp (rI CDivW fun i j => V.int (i / j)) (tDGet (tVar 3) (tVar 13)) (tVar 11)) op_eq (by exact pe_op op_fdivW (by exact pe_dget (by exact hu_of hr) (pv 3) (pv 13) (fun _ _ => rfl)) (pv 11)) (pe_op op_fdivW (pe_ix (ix_tupK (K := K) rfl) (pv 8) pe_int (fun _ _ => rfl)) (pv 11)) (nomark _)))) (fun _ _ _ _ _ => (pv 13)))))
      (pss_cons (ps_set (i := 9) sc__law_put.nd rfl (Or.inr rfl) pe_dnewK)
      (pss_one (ps_for PassesOwn.never rfl (pi_enum (by rfl) T.n_enumerate (pa_cons (pv 14) pa_nil)) (pg_tup rfl (pgs_cons (pg_name (i := 15) sc__law_put.nd rfl (Or.inl rfl)) (pgs_cons (pg_name (i := 13) sc__law_put.nd rfl (Or.inl rfl)) pgs_nil)))
        (pss_one (ps_dput (by exact hu_of hr) (pv 9) (pv 13) (pe_op op_add (pe_ix ix_tup (pv 8) pe_int (fun _ _ => rfl)) (pe_op op_fdivW (pe_op op_mulW (pv 15) (pv 11)) (pe_callB (id := "len") call_len_seq (by rfl) T.n_len (by decide +kernel) (pa_cons (pv 14) pa_nil)))) rfl)))))))))) pss_nil)
      (pss_cons (ps_lock (ps_setLc (i := 16) (own := [("_law_thing", 13)]) (g := (gName 13)) rfl sc__law_put.nd rfl rfl (sw_true rfl rfl rfl (by decide +kernel)) (pi_keys (pv 9)) (blkOk_by (own := [("_law_thing", 13)]) (N := ["_law_m", "_law_one", "_law_line", "_law_marks", "_law_at", "_law_low", "_law_high", "_law_number", "_law_stretch", "_law_fresh", "_law_level", "_law_size", "_law_start", "_law_thing", "_law_some", "_law_place_here", "_law_changed"]) (sc := defScope s__law_put) (by decide +kernel)) (fun _ _ _ _ _ => (pg_name (i := 13) sc__law_put.nd rfl (Or.inl rfl))) (fun _ _ _ _ _ => pts_one (by exact (PW.pt (pw_and (pt_cmpR op_ne (pv 13) (pv 7) (nomark _)) (pw_and1 (pt_cmpR (ta := tDGet (tVar 3) (tVar 13)) (tb := tDGet (tVar 9) (tVar 13)) op_ne (by exact pe_dget (by exact hu_of hr) (pv 3) (pv 13) (fun _ _ => rfl)) (by exact pe_dget (by exact hu_of hr) (pv 9) (pv 13) (fun _ _ => rfl)) (nomark _))))))) (fun _ _ _ _ _ => (pe_tup (pa_cons (pv 13) (pa_cons (pe_dget (by exact hu_of hr) (pv 9) (pv 13) (fun _ _ => rfl)) pa_nil))))))
      (pss_cons (ps_expr (pe_bm PySem.F.plainAttrs_list PySem.F.slot_list_insert PySem.F.type_list_insert mt_insert (pv 2) (pa_cons (pv 4) (pa_cons (pv 7) pa_nil))))
      (pss_cons (ps_expr (pe_bm PySem.F.plainAttrs_dict PySem.F.slot_dict_update PySem.F.type_dict_update mtd_update (pv 3) (pa_cons (pv 9) pa_nil)))
      (pss_cons (ps_dput (by exact hu_of hr) (pv 0) pe_str (pe_op op_add (pv 7) pe_int) rfl)
      (pss_cons (ps_dput (by exact hu_of hr) (pv 0) pe_str (pe_op op_sub (pe_op op_add (pe_dget (by exact hu_of hr) (pv 0) pe_str (fun _ _ => rfl)) (pe_op op_mulW pe_int (pe_dget (by exact hu_of hr) (pv 0) pe_str (fun _ _ => rfl)))) (pe_callB (id := "len") call_len_seq (by rfl) T.n_len (by decide +kernel) (pa_cons (pv 16) pa_nil))) rfl)
      (pss_one (ps_ret (pe_tup (pa_cons (pv 7) (pa_cons (pv 8) (pa_cons (pv 16) pa_nil))))))))))))))))))), ?_⟩
    have h60 := G.w60
    have hlen := G.len
    have hpl := place_le ho
    obtain ⟨hM, hL, ⟨kvs, hD, hkn, D⟩, nmd⟩ := id S
    -- line, marks
    refine ⟨_, rfl, m, _, rfl, gLine hM, _, rfl, m, _, rfl, gMarks hM, small (by show 2 ≤ 100000; decide), fun t0 ht0 => ?_⟩
    refine ⟨t0, _, rfl, SqT.of upd_same, rfl, _, _, rfl, _, _, rfl, rfl, ?_⟩
    have s0 : Same H (upd H t0 (.tup [.ref la, .ref da])) := same_new ht0
    change tSeq _ _ _ _ (upd H t0 (.tup [.ref la, .ref da]))
    generalize upd H t0 (.tup [.ref la, .ref da]) = H0 at *
    -- at
    refine if_place (o := o) rfl rfl (s0 _ _ hL) ho ?_
    rw [place_eq]
    generalize hP : placeOf r o = n at *
    -- low
    refine ⟨fun σ' H' => H' = H0 ∧ σ' = [some (.ref m), some (oneV o), some (.ref la), some (.ref da), some (.int (n : Int)), some (.int (aheadM r n)), none, none, none, none, none, none, none, none, none, none, none], ?_, ?_⟩
    · refine ⟨_, rfl, _, _, rfl, rfl, _, rfl, ?_⟩
      cases n with
      | zero =>
        refine iteFd (by omega) ?_
        exact ⟨_, rfl, rfl, rfl⟩
      | succ j =>
        refine iteTd (by omega) ?_
        have hj : j < r.ord.length := by omega
        have hv : valV kvs (Sum.inl (r.ord.getD j 0)) = some (.int (r.mrk (r.ord.getD j 0))) := by rw [D.get, if_pos (getD_mem hj)]
        refine ⟨_, rfl, _, rfl, _, rfl, _, _, rfl, rfl, la, _, _, _, rfl, rfl, SqL.of (s0 _ _ hL), by rw [show (((j + 1 : Nat) : Int) - 1) = (j : Int) by omega]; exact atI_nat (getD_at hj), da, _, rfl, by have e := DGet.k (k := Sum.inl (r.ord.getD j 0)) (s0 _ _ hD); rw [hv] at e; exact e, rfl, rfl⟩
    rintro σ1 H1 ⟨rfl, rfl⟩
    -- high
    refine ⟨fun σ' H' => H' = H1 ∧ σ' = [some (.ref m), some (oneV o), some (.ref la), some (.ref da), some (.int (n : Int)), some (.int (aheadM r n)), some (.int (behindM r n)), none, none, none, none, none, none, none, none, none, none], ?_, ?_⟩
    · refine ⟨_, rfl, _, rfl, la, _, rfl, .inl (SqL.of (s0 _ _ hL)), _, _, rfl, rfl, _, rfl, ?_⟩
      rw [List.length_map]
      refine ite2d (fun hlt => ?_) (fun hge => ?_)
      · have hj : n < r.ord.length := by omega
        have hv : valV kvs (Sum.inl (r.ord.getD n 0)) = some (.int (r.mrk (r.ord.getD n 0))) := by rw [D.get, if_pos (getD_mem hj)]
        refine ⟨_, rfl, _, rfl, _, rfl, la, _, _, _, rfl, rfl, SqL.of (s0 _ _ hL), atI_nat (getD_at hj), da, _, rfl, by rw [← hv]; exact DGet.k (k := Sum.inl (r.ord.getD n 0)) (s0 _ _ hD), rfl, ?_⟩
        unfold behindM
        rw [if_pos hj]
        rfl
      · refine ⟨_, rfl, m, _, rfl, gWide (s0 _ _ hM), _, _, rfl, rfl, ⟨by omega, by omega, by decide⟩, rfl, ?_⟩
        dsimp only
        rw [shl_one]
        unfold behindM
        rw [if_neg (by omega)]
        rfl
    rintro σ1 H1 ⟨rfl, rfl⟩
    -- number, stretch, fresh
    refine ⟨_, rfl, m, _, rfl, gNext (s0 _ _ hM), ?_⟩
    refine fun fa hfa => ⟨_, rfl, _, rfl, _, rfl, _, _, rfl, rfl, _, _, rfl, rfl, ⟨by decide, by decide⟩, upd_same, [kvOf ((r.given : Int), (aheadM r n + behindM r n) / 2)], rfl, by show 1 ≤ 15; decide, ?_⟩
    rw [upd_upd]
    have s2 := s0.trans (same_new (o := .dK [kvOf ((r.given : Int), (aheadM r n + behindM r n) / 2)]) hfa)
    have hF2 : (upd H1 fa (.dK [kvOf ((r.given : Int), (aheadM r n + behindM r n) / 2)])) fa = some (.dK [kvOf ((r.given : Int), (aheadM r n + behindM r n) / 2)]) := upd_same
    have hfaH : H fa = none := s0.free hfa
    change tSeq _ _ _ _ (upd H1 fa (.dK [kvOf ((r.given : Int), (aheadM r n + behindM r n) / 2)]))
    generalize upd H1 fa (.dK [kvOf ((r.given : Int), (aheadM r n + behindM r n) / 2)]) = H2 at *
    -- the two ways to the new marks
    refine ⟨fun σ' H' => ∃ st marked stv fb z10 z11 z12 z13 z14 z15, marksFor r n = some (st, marked) ∧ Same H H' ∧ H fb = none ∧ StV H' stv st ∧ H' fb = some (.dK (marked.map kvOf)) ∧
      σ' = [some (.ref m), some (oneV o), some (.ref la), some (.ref da), some (.int (n : Int)), some (.int (aheadM r n)), some (.int (behindM r n)), some (.int (r.given : Int)), some stv, some (.ref fb), z10, z11, z12, z13, z14, z15, none], ?_, ?_⟩
    · refine ⟨_, rfl, _, rfl, _, _, rfl, rfl, _, _, rfl, rfl, _, rfl, ?_⟩
      refine ite2d (fun hlt => ?_) (fun hge => ?_)
      · have hno : ¬ 2 ≤ behindM r n - aheadM r n := by omega
        have em : (if (0 : Int) > aheadM r n then (0 : Int) else aheadM r n) = max (aheadM r n) 0 := by
          split <;> omega
        have hal := ahead_lt G hpl
        have hmm0 : (0 : Int) ≤ max (aheadM r n) 0 := by omega
        have hmm1 : max (aheadM r n) 0 < 2 ^ r.wide := by
          have := two_pow_pos r.wide
          omega
        have hmm2 : max (aheadM r n) 0 < 2 ^ 60 := Int.lt_of_lt_of_le hmm1 (two_pow_le h60)
        have hmf : marksFor r n = match findL r (max (aheadM r n) 0) with
          | none => none
          | some L => some (some (L, baseM (max (aheadM r n) 0) L), (inside r n L (baseM (max (aheadM r n) 0) L)).zip (spreadL L (baseM (max (aheadM r n) 0) L) (inside r n L (baseM (max (aheadM r n) 0) L)).length)) := if_neg hno
        generalize hmm : max (aheadM r n) 0 = mm at *
        -- the levels, from the widest down
        refine ⟨_, rfl, m, _, rfl, gWide (s2 _ _ hM), _, rfl, _, rfl, _, _, _, _, rfl, RgC.neg (by omega) (by omega) (by decide) (by decide), ?_⟩
        have en : ((r.wide : Int) - (-1)).toNat = r.wide + 1 := by omega
        rw [en]
        refine for_rangeC (lo := (r.wide : Int)) (c := -1) (n := r.wide + 1) (fun i σ H' => Same H2 H' ∧ ∃ stv z10 z11 z12 z13 z14, Fnd r mm i stv H' ∧ σ = [some (.ref m), some (oneV o), some (.ref la), some (.ref da), some (.int (n : Int)), some (.int (aheadM r n)), some (.int (behindM r n)), some (.int (r.given : Int)), some stv, some (.ref fa), z10, z11, z12, z13, z14, none, none])
          ⟨Same.refl _, .non, none, none, none, none, none, .inl ⟨rfl, fun j g1 g2 => by omega⟩, rfl⟩ ?_ ?_
        · rintro i σ H3 hi ⟨s3, stv, z10, z11, z12, z13, z14, hF, rfl⟩
          have s03 := s2.trans s3
          obtain ⟨lv, hlv⟩ : ∃ lv : Nat, lv + i = r.wide := ⟨r.wide - i, by omega⟩
          have el : (r.wide : Int) + ((i : Nat) : Int) * -1 = (lv : Int) := by omega
          rw [el]
          have hp1 := two_pow_pos lv
          have hp2 := two_pow_lt (l := lv) (by omega)
          -- size, start
          refine ⟨_, rfl, _, _, rfl, rfl, ⟨by omega, by omega, by decide⟩, ?_⟩
          dsimp only
          rw [shl_one]
          refine ⟨_, rfl, _, _, rfl, ?_⟩
          rw [em]
          have hq1 : (mm / 2 ^ lv).natAbs < 2 ^ 60 := by
            have h1 : 0 ≤ mm / 2 ^ lv := Int.ediv_nonneg hmm0 (Int.le_of_lt hp1)
            have h2 : mm / 2 ^ lv ≤ mm := Int.ediv_le_self _ hmm0
            omega
          refine ⟨_, rfl, _, _, rfl, rfl, wide_div hp1 hp2 (by decide) (by decide), _, rfl, _, _, rfl, rfl, wide_mul hq1 hp2 (by decide) (by decide) (by decide), ?_⟩
          -- some
          refine ⟨_, rfl, la, rfl, ⟨_, SqL.of (s03 _ _ hL)⟩, fun D1 hD1 => ?_⟩
          refine lc_list (K := K) (a := la) (xs := (r.ord).map V.int) (fun j H' => H' = upd H3 D1 (.lst ((((r.ord).take j).filter (lies r lv (baseM mm lv))).map V.int))) (by simp) (fun j H' _ e => by rw [e]; exact (same_new hD1).seq (SqL.of (s03 _ _ hL))) ?_ ?_
          · rintro j x H' hj rfl
            obtain ⟨z, hz, rfl⟩ := int_of hj
            have hzm : z ∈ r.ord := (fun z hz => hz) z (List.mem_of_getElem? hz)
            have sx := same_new (o := .lst ((((r.ord).take j).filter (lies r lv (baseM mm lv))).map V.int)) hD1
            have hv : valV kvs (Sum.inl z) = some (.int (r.mrk z)) := by rw [D.get, if_pos hzm]
            have hp1 := two_pow_pos lv
            have hp2 := two_pow_lt (l := lv) (by omega)
            refine ⟨rfl, _, rfl, _, rfl, da, _, rfl, by rw [← hv]; exact DGet.k (k := Sum.inl z) (sx _ _ (s03 _ _ hD)), _, rfl, _, _, rfl, rfl, wide_div hp1 hp2 (by decide) (by decide), _, rfl, _, rfl, _, _, rfl, rfl, wide_div hp1 hp2 (by decide) (by decide), rfl, _, rfl, ?_⟩
            show if decide (V.int (r.mrk z / 2 ^ lv) = V.int (baseM mm lv / 2 ^ lv)) = true then _ else _
            rw [base_div]
            by_cases e : lies r lv (baseM mm lv) z = true
            · refine iteTd (congrArg V.int ((lie_iff (L := lv)).mpr e)) ?_
              refine ⟨_, rfl, _, upd_same, smallL ?_, ?_⟩
              · rw [List.length_map]
                have := filt_len (lies r lv (baseM mm lv)) (r.ord) j
                have := hlen
                omega
              · rw [upd_upd, filt_yes (f := lies r lv (baseM mm lv)) hz e, List.map_append]
                rfl
            · refine iteFd (fun q => e ((lie_iff (L := lv)).mp (V.int.inj q))) ?_
              rw [filt_no (f := lies r lv (baseM mm lv)) hz (by simpa using e)]
          rintro HX rfl
          rw [List.length_map, List.take_length]
          have s4 := same_new (o := .lst ((r.ord.filter (lies r lv (baseM mm lv))).map V.int)) hD1
          have hK4 : (upd H3 D1 (.lst ((r.ord.filter (lies r lv (baseM mm lv))).map V.int))) D1 = some (.lst ((r.ord.filter (lies r lv (baseM mm lv))).map V.int)) := upd_same
          generalize upd H3 D1 (.lst ((r.ord.filter (lies r lv (baseM mm lv))).map V.int)) = H4 at *
          have hc2 : (r.ord.filter (lies r lv (baseM mm lv))).length ≤ 200 := Nat.le_trans (List.length_filter_le ..) hlen
          refine ⟨_, rfl, _, rfl, D1, _, rfl, .inl (SqL.of hK4), _, _, rfl, rfl, lv, _, rfl, by omega, by rw [List.length_map]; omega, _, rfl, ?_⟩
          rw [List.length_map]
          change if fits r mm lv = true then _ else _
          refine iteOf (fun hy => ?_) (fun hn => ⟨s3.trans s4, stv, _, _, _, _, _, (hF.keep s4).miss hlv hn, rfl⟩)
          refine ⟨_, rfl, _, rfl, small (by show 2 ≤ 100000; decide), fun t5 ht5 => ?_⟩
          exact ⟨(s3.trans s4).trans (same_new ht5), _, _, _, _, _, _, Fnd.hit hlv hy upd_same, rfl⟩
        · rintro σ H3 ⟨s3, stv, z10, z11, z12, z13, z14, hF, rfl⟩
          have s03 := s2.trans s3
          rcases hF with ⟨rfl, hno'⟩ | ⟨t, L, rfl, hT, _, hLw, hfit, hless⟩
          · have hfn : findL r mm = none := find_none (p := fits r mm) fun j hj => hno' j (by omega) (by omega)
            rw [hfn] at hmf
            refine ⟨_, rfl, rfl, _, rfl, ?_⟩
            refine iteTd rfl ?_
            exact kN hmf _ s03
          · have hfn : findL r mm = some L := find_step (p := fits r mm) (fun j hj => hless j (by omega) hj) (by omega) hfit
            rw [hfn] at hmf
            replace hmf : marksFor r n = some (some (L, baseM mm L), (inside r n L (baseM mm L)).zip (spreadL L (baseM mm L) (inside r n L (baseM mm L)).length)) := hmf
            refine ⟨_, rfl, rfl, _, rfl, ?_⟩
            refine iteFd (by intro z; cases z) ?_
            have hp1 := two_pow_pos L
            have hp2 := two_pow_lt (l := L) (by omega)
            -- size
            refine ⟨_, rfl, t, _, _, _, rfl, rfl, SqT.of hT, atI_nat (j := 0) rfl, _, _, rfl, rfl, ⟨by omega, by omega, by decide⟩, ?_⟩
            dsimp only
            rw [shl_one]
            -- the things ahead of it, itself
            refine ⟨_, rfl, _, rfl, _, rfl, la, _, rfl, SqL.of (s03 _ _ hL), fun sl hsl => ?_⟩
            rw [cut_to, ← List.map_take]
            have s4 := same_new (o := .lst ((r.ord.take n).map V.int)) hsl
            refine ⟨sl, rfl, ⟨_, SqL.of upd_same⟩, fun D1 hD1 => ?_⟩
            refine lc_list (K := K) (a := sl) (xs := ((r.ord.take n)).map V.int) (fun j H' => H' = upd (upd H3 sl (.lst ((r.ord.take n).map V.int))) D1 (.lst (((((r.ord.take n)).take j).filter (lies r L (baseM mm L))).map V.int))) (by simp) (fun j H' _ e => by rw [e]; exact (same_new hD1).seq (SqL.of upd_same)) ?_ ?_
            · rintro j x H' hj rfl
              obtain ⟨z, hz, rfl⟩ := int_of hj
              have hzm : z ∈ r.ord := (fun z hz => List.mem_of_mem_take hz) z (List.mem_of_getElem? hz)
              have sx := same_new (o := .lst (((((r.ord.take n)).take j).filter (lies r L (baseM mm L))).map V.int)) hD1
              have hv : valV kvs (Sum.inl z) = some (.int (r.mrk z)) := by rw [D.get, if_pos hzm]
              have hp1 := two_pow_pos L
              have hp2 := two_pow_lt (l := L) (by omega)
              refine ⟨rfl, _, rfl, _, rfl, da, _, rfl, by rw [← hv]; exact DGet.k (k := Sum.inl z) (sx _ _ (s4 _ _ (s03 _ _ hD))), _, rfl, _, _, rfl, rfl, wide_div hp1 hp2 (by decide) (by decide), _, rfl, t, _, _, _, rfl, rfl, SqT.of (sx _ _ (s4 _ _ hT)), atI_nat (j := 1) rfl, _, rfl, _, _, rfl, rfl, wide_div hp1 hp2 (by decide) (by decide), rfl, _, rfl, ?_⟩
              show if decide (V.int (r.mrk z / 2 ^ L) = V.int (baseM mm L / 2 ^ L)) = true then _ else _
              rw [base_div]
              by_cases e : lies r L (baseM mm L) z = true
              · refine iteTd (congrArg V.int ((lie_iff (L := L)).mpr e)) ?_
                refine ⟨_, rfl, _, upd_same, smallL ?_, ?_⟩
                · rw [List.length_map]
                  have := filt_len (lies r L (baseM mm L)) ((r.ord.take n)) j
                  have := (Nat.le_trans (List.length_take_le' n r.ord) hlen)
                  omega
                · rw [upd_upd, filt_yes (f := lies r L (baseM mm L)) hz e, List.map_append]
                  rfl
              · refine iteFd (fun q => e ((lie_iff (L := L)).mp (V.int.inj q))) ?_
                rw [filt_no (f := lies r L (baseM mm L)) hz (by simpa using e)]
            rintro HX rfl
            rw [List.length_map, List.take_length]
            refine ⟨_, rfl, small (by show 1 ≤ 100000; decide), fun nl hnl => ?_⟩
            have l1 : ((r.ord.take n).filter (lies r L (baseM mm L))).length ≤ 200 := Nat.le_trans (List.length_filter_le ..) (Nat.le_trans (List.length_take_le' n r.ord) hlen)
            refine ⟨D1, nl, _, _, rfl, rfl, (same_new hnl) _ _ upd_same, upd_same, small (by rw [List.length_map]; show _ + 1 ≤ _; omega), fun a1 ha1 => ?_⟩
            have s5 := ((s4.trans (same_new (o := .lst (((r.ord.take n).filter (lies r L (baseM mm L))).map V.int)) hD1)).trans (same_new (o := .lst [V.int (r.given : Int)]) hnl)).trans (same_new (o := .lst (((r.ord.take n).filter (lies r L (baseM mm L))).map V.int ++ [V.int (r.given : Int)])) ha1)
            have hA5 : (upd (upd (upd (upd H3 sl (.lst ((r.ord.take n).map V.int))) D1 (.lst (((r.ord.take n).filter (lies r L (baseM mm L))).map V.int))) nl (.lst [V.int (r.given : Int)])) a1 (.lst (((r.ord.take n).filter (lies r L (baseM mm L))).map V.int ++ [V.int (r.given : Int)]))) a1 = some (.lst (((r.ord.take n).filter (lies r L (baseM mm L))).map V.int ++ [V.int (r.given : Int)])) := upd_same
            change tSeq _ _ _ _ (upd (upd (upd (upd H3 sl (.lst ((r.ord.take n).map V.int))) D1 (.lst (((r.ord.take n).filter (lies r L (baseM mm L))).map V.int))) nl (.lst [V.int (r.given : Int)])) a1 (.lst (((r.ord.take n).filter (lies r L (baseM mm L))).map V.int ++ [V.int (r.given : Int)])))
            generalize upd (upd (upd (upd H3 sl (.lst ((r.ord.take n).map V.int))) D1 (.lst (((r.ord.take n).filter (lies r L (baseM mm L))).map V.int))) nl (.lst [V.int (r.given : Int)])) a1 (.lst (((r.ord.take n).filter (lies r L (baseM mm L))).map V.int ++ [V.int (r.given : Int)])) = H5 at *
            have s05 := s03.trans s5
            -- those behind it
            refine ⟨_, rfl, _, rfl, _, rfl, _, rfl, la, _, rfl, SqL.of (s05 _ _ hL), fun sl2 hsl2 => ?_⟩
            rw [cut_from, ← List.map_drop]
            have s6 := same_new (o := .lst ((r.ord.drop n).map V.int)) hsl2
            refine ⟨sl2, rfl, ⟨_, SqL.of upd_same⟩, fun D2 hD2 => ?_⟩
            refine lc_list (K := K) (a := sl2) (xs := ((r.ord.drop n)).map V.int) (fun j H' => H' = upd (upd H5 sl2 (.lst ((r.ord.drop n).map V.int))) D2 (.lst (((((r.ord.drop n)).take j).filter (lies r L (baseM mm L))).map V.int))) (by simp) (fun j H' _ e => by rw [e]; exact (same_new hD2).seq (SqL.of upd_same)) ?_ ?_
            · rintro j x H' hj rfl
              obtain ⟨z, hz, rfl⟩ := int_of hj
              have hzm : z ∈ r.ord := (fun z hz => List.mem_of_mem_drop hz) z (List.mem_of_getElem? hz)
              have sx := same_new (o := .lst (((((r.ord.drop n)).take j).filter (lies r L (baseM mm L))).map V.int)) hD2
              have hv : valV kvs (Sum.inl z) = some (.int (r.mrk z)) := by rw [D.get, if_pos hzm]
              have hp1 := two_pow_pos L
              have hp2 := two_pow_lt (l := L) (by omega)
              refine ⟨rfl, _, rfl, _, rfl, da, _, rfl, by rw [← hv]; exact DGet.k (k := Sum.inl z) (sx _ _ (s6 _ _ (s05 _ _ hD))), _, rfl, _, _, rfl, rfl, wide_div hp1 hp2 (by decide) (by decide), _, rfl, t, _, _, _, rfl, rfl, SqT.of (sx _ _ (s6 _ _ (s5 _ _ hT))), atI_nat (j := 1) rfl, _, rfl, _, _, rfl, rfl, wide_div hp1 hp2 (by decide) (by decide), rfl, _, rfl, ?_⟩
              show if decide (V.int (r.mrk z / 2 ^ L) = V.int (baseM mm L / 2 ^ L)) = true then _ else _
              rw [base_div]
              by_cases e : lies r L (baseM mm L) z = true
              · refine iteTd (congrArg V.int ((lie_iff (L := L)).mpr e)) ?_
                refine ⟨_, rfl, _, upd_same, smallL ?_, ?_⟩
                · rw [List.length_map]
                  have := filt_len (lies r L (baseM mm L)) ((r.ord.drop n)) j
                  have := (show (r.ord.drop n).length ≤ 200 by rw [List.length_drop]; omega)
                  omega
                · rw [upd_upd, filt_yes (f := lies r L (baseM mm L)) hz e, List.map_append]
                  rfl
              · refine iteFd (fun q => e ((lie_iff (L := L)).mp (V.int.inj q))) ?_
                rw [filt_no (f := lies r L (baseM mm L)) hz (by simpa using e)]
            rintro HX rfl
            rw [List.length_map, List.take_length]
            have s7 := s6.trans (same_new (o := .lst (((r.ord.drop n).filter (lies r L (baseM mm L))).map V.int)) hD2)
            have l2 : ((r.ord.drop n).filter (lies r L (baseM mm L))).length ≤ 200 := Nat.le_trans (List.length_filter_le ..) (by rw [List.length_drop]; omega)
            refine ⟨a1, D2, _, _, rfl, rfl, s7 _ _ hA5, upd_same, small (by rw [List.length_append, List.length_map, List.length_map]; show _ + 1 + _ ≤ _; omega), fun a2 ha2 => ?_⟩
            have e2 : ((r.ord.take n).filter (lies r L (baseM mm L))).map V.int ++ [V.int (r.given : Int)] ++ ((r.ord.drop n).filter (lies r L (baseM mm L))).map V.int = (inside r n L (baseM mm L)).map V.int := by
              rw [inside_split G, List.map_append, List.map_append]
              rfl
            rw [e2]
            have s8 := s05.trans (s7.trans (same_new (o := .lst ((inside r n L (baseM mm L)).map V.int)) ha2))
            have hT8 := (s5.trans (s7.trans (same_new (o := .lst ((inside r n L (baseM mm L)).map V.int)) ha2))) _ _ hT
            have hA8 : (upd (upd (upd H5 sl2 (.lst ((r.ord.drop n).map V.int))) D2 (.lst (((r.ord.drop n).filter (lies r L (baseM mm L))).map V.int))) a2 (.lst ((inside r n L (baseM mm L)).map V.int))) a2 = some (.lst ((inside r n L (baseM mm L)).map V.int)) := upd_same
            change tSeq _ _ _ _ (upd (upd (upd H5 sl2 (.lst ((r.ord.drop n).map V.int))) D2 (.lst (((r.ord.drop n).filter (lies r L (baseM mm L))).map V.int))) a2 (.lst ((inside r n L (baseM mm L)).map V.int)))
            generalize upd (upd (upd H5 sl2 (.lst ((r.ord.drop n).map V.int))) D2 (.lst (((r.ord.drop n).filter (lies r L (baseM mm L))).map V.int))) a2 (.lst ((inside r n L (baseM mm L)).map V.int)) = H8 at *
            have hnd := marked_nd G hmf
            have hil : (inside r n L (baseM mm L)).length ≤ 201 := by
              have h1 : (inside r n L (baseM mm L)).length ≤ (ordIns r n).length := List.length_filter_le ..
              rw [ins_len] at h1
              omega
            generalize hins : inside r n L (baseM mm L) = ins at *
            generalize hmk : ins.zip (spreadL L (baseM mm L) ins.length) = marked at *
            have hml : marked.length = ins.length := by rw [← hmk, List.length_zip, spread_length, Nat.min_self]
            -- the new marks
            refine fun fb hfb => ?_
            have s9 := s8.trans (same_new (o := .dK []) hfb)
            refine ⟨_, rfl, a2, _, rfl, SqL.of ((same_new hfb) _ _ hA8), ?_⟩
            refine for_it (walk_enum (K := K) (a := a2) (xs := ins.map V.int)) (fun i σ H' => Same H8 H' ∧ H' fb = some (.dK ((marked.take i).map kvOf)) ∧ ∃ z13 z15, σ = [some (.ref m), some (oneV o), some (.ref la), some (.ref da), some (.int (n : Int)), some (.int (aheadM r n)), some (.int (behindM r n)), some (.int (r.given : Int)), some (.ref t), some (.ref fb), z10, some (.int (2 ^ L)), z12, z13, some (.ref a2), z15, none])
              ⟨same_new hfb, upd_same, z13, none, rfl⟩ (fun i σ H' _ q => SqL.of (q.1 _ _ hA8)) ?_ ?_
            · rintro i x σ H9 H10 hi ⟨s9', hF9, z13, z15, rfl⟩ ⟨T1, x1, y1, rfl, hT1, rfl, e1, e2⟩
              cases e1
              obtain ⟨y, hy, rfl⟩ := int_of e2
              rw [List.length_map] at hi
              have s10 := s9'.trans (same_new (o := .tup [.int (i : Int), .int y]) hT1)
              have hF10 := same_new (o := .tup [.int (i : Int), .int y]) hT1 _ _ hF9
              refine ⟨T1, _, rfl, SqT.of upd_same, rfl, _, _, rfl, _, _, rfl, rfl, ?_⟩
              have hb : (((i : Nat) : Int) * 2 ^ L).natAbs < 2 ^ 80 := by
                have h1 : ((i : Nat) : Int).natAbs < 2 ^ 19 := by omega
                exact wide_lt h1 hp2
              have hat : marked[i]? = some (y, baseM mm L + 2 ^ L * (i : Int) / (ins.length : Int)) := by
                rw [← hmk]
                exact List.getElem?_zip_eq_some.mpr ⟨hy, spread_get hi⟩
              have hnot : ¬ y ∈ (marked.take i).map (·.1) := fun hmem => by
                have h2 : ((marked.take (i + 1)).map (·.1)).Nodup := hnd.sublist ((List.take_sublist ..).map _)
                rw [List.take_add_one, hat] at h2
                simp only [Option.toList_some, List.map_append, List.map_cons, List.map_nil] at h2
                rw [List.nodup_append] at h2
                exact h2.2.2 y hmem y (List.mem_singleton.mpr rfl) rfl
              refine ⟨_, rfl, t, _, _, _, rfl, rfl, SqT.of (s10 _ _ hT8), atI_nat (j := 1) rfl, _, rfl, _, rfl, _, _, rfl, rfl, wide_mul (a := 19) (by omega) hp2 (by decide) (by decide) (by decide), _, rfl, a2, _, rfl, .inl (SqL.of (s10 _ _ hA8)), _, _, rfl, rfl, wide_div (by rw [List.length_map]; omega) (show ((((ins.map V.int).length : Nat) : Int)).natAbs < 2 ^ 20 by rw [List.length_map]; omega) (by decide) (by decide), _, _, rfl, rfl, _, rfl, _, rfl, fb, _, rfl, DPut.k (k := Sum.inl y) hF10 (smallL (by rw [List.length_map]; have := List.length_take_le' i marked; omega)), ?_⟩
              have ev : baseM mm L + ((i : Nat) : Int) * 2 ^ L / (((ins.map V.int).length : Nat) : Int) = baseM mm L + 2 ^ L * (i : Int) / (ins.length : Int) := by rw [List.length_map, Int.mul_comm]
              have ep := kv_put (qs := marked.take i) (q := (y, baseM mm L + 2 ^ L * (i : Int) / (ins.length : Int))) hnot
              have et : marked.take (i + 1) = marked.take i ++ [(y, baseM mm L + 2 ^ L * (i : Int) / (ins.length : Int))] := by rw [List.take_add_one, hat]; rfl
              refine ⟨fun b u e => by rw [upd_ne (ne_of_none e hfb)]; exact s10 _ _ e, ?_, _, _, rfl⟩
              rw [upd_same, et, ← ep]
              exact congrArg (fun v => some (HO.dK (putK ((marked.take i).map kvOf) (Sum.inl y) (V.int v)))) ev
            · rintro σ H9 ⟨s9', hF9, z13', z15, rfl⟩
              rw [List.length_map, ← hml, List.take_length] at hF9
              exact ⟨some (L, baseM mm L), marked, .ref t, fb, _, _, _, _, _, _, hmf, s8.trans s9', s8.free hfb, ⟨t, rfl, s9' _ _ hT8⟩, hF9, rfl⟩
      · exact ⟨none, [((r.given : Int), (aheadM r n + behindM r n) / 2)], .non, fa, none, none, none, none, none, none, if_pos (by omega), s2, hfaH, rfl, hF2, rfl⟩
    · rintro σ H3 ⟨st, marked, stv, fb, z10, z11, z12, z13, z14, z15, hmf, s3, hfb, hSV, hF3, rfl⟩
      have M := marks_ok G hmf
      have hnd := marked_nd G hmf
      have hMl := M.len
      -- changed
      refine ⟨fb, .dK (marked.map kvOf), hF3, trivial, fun od => ?_⟩
      refine ⟨_, rfl, fb, od, rfl, .inl ⟨_, upd_same, fun ca hca => ?_⟩⟩
      have hL3 : (upd H3 fb (.frz od (.dK (marked.map kvOf)))) fb = some (.frz od (.dK (marked.map kvOf))) := upd_same
      have kH : ∀ b u, H b = some u → (upd H3 fb (.frz od (.dK (marked.map kvOf)))) b = some u := fun b u e => by
        rw [upd_ne (ne_of_none e hfb)]
        exact s3 _ _ e
      have k3 : ∀ b u, (upd H3 fb (.frz od (.dK (marked.map kvOf)))) b = some u → b ≠ fb → H3 b = some u := fun b u e hb => by
        rw [upd_ne hb] at e
        exact e
      have k3' : ∀ b u, H3 b = some u → b ≠ fb → (upd H3 fb (.frz od (.dK (marked.map kvOf)))) b = some u := fun b u e hb => by
        rw [upd_ne hb]
        exact e
      generalize upd H3 fb (.frz od (.dK (marked.map kvOf))) = HL at *
      refine lc_it (walk_keys (d := fb) (o := od) (kvs := marked.map kvOf)) (fun i H' => Same HL H' ∧ ∃ cas, PairsAt H' ca cas (changedOf r (marked.take i))) ⟨same_new hca, [], ⟨upd_same, rfl, fun i q hq => by simp [changedOf] at hq⟩⟩ (fun i H' _ p => p.1 _ _ hL3) ?_ ?_
      · rintro i x _ H8 hi ⟨s8, cas, PC⟩ ⟨rfl, k, v, hk, rfl⟩
        obtain ⟨q, hq, rfl, rfl⟩ : ∃ q, marked[i]? = some q ∧ k = Sum.inl q.1 ∧ v = V.int q.2 := by
          rw [List.getElem?_map] at hk
          cases e : marked[i]? with
          | none => rw [e] at hk; cases hk
          | some q =>
            rw [e] at hk
            have e2 := Option.some.inj hk
            exact ⟨q, rfl, (congrArg Prod.fst e2).symm, (congrArg Prod.snd e2).symm⟩
        have hcl : cas.length ≤ 201 := by
          rw [PC.len]
          unfold changedOf
          have := filt_len (fun q : Int × Int => decide (q.1 ≠ (r.given : Int)) && decide (r.mrk q.1 ≠ q.2)) marked i
          omega
        refine ⟨rfl, _, rfl, _, rfl, rfl, _, rfl, ?_⟩
        by_cases hne : q.1 = (r.given : Int)
        · refine iteNS (congrArg V.int hne) ?_
          refine iteF ?_
          refine ⟨s8, cas, ?_⟩
          have e2 : changedOf r (marked.take (i + 1)) = changedOf r (marked.take i) := filt_no (f := fun q : Int × Int => decide (q.1 ≠ (r.given : Int)) && decide (r.mrk q.1 ≠ q.2)) hq (by simp [hne])
          rw [e2]
          exact PC
        · refine iteNT (fun z => hne (V.int.inj z)) ?_
          have hqo : q.1 ∈ r.ord := (M.keys q (List.mem_of_getElem? hq)).resolve_left hne
          have hv : valV kvs (Sum.inl q.1) = some (.int (r.mrk q.1)) := by rw [D.get, if_pos hqo]
          have hw := kv_at hnd hq
          refine ⟨_, rfl, _, rfl, da, _, rfl, by rw [← hv]; exact DGet.k (k := Sum.inl q.1) (s8 _ _ (kH _ _ hD)), _, rfl, _, rfl, fb, _, rfl, by rw [← hw]; exact .inl ⟨_, Sum.inl q.1, .inr ⟨od, s8 _ _ hL3⟩, rfl, rfl⟩, rfl, _, rfl, ?_⟩
          by_cases heq : r.mrk q.1 = q.2
          · refine iteNS (congrArg V.int heq) ?_
            refine ⟨s8, cas, ?_⟩
            have e2 : changedOf r (marked.take (i + 1)) = changedOf r (marked.take i) := filt_no (f := fun q : Int × Int => decide (q.1 ≠ (r.given : Int)) && decide (r.mrk q.1 ≠ q.2)) hq (by simp [heq])
            rw [e2]
            exact PC
          · refine iteNT (fun z => heq (V.int.inj z)) ?_
            refine ⟨_, rfl, _, rfl, _, rfl, fb, _, rfl, by rw [← hw]; exact .inl ⟨_, Sum.inl q.1, .inr ⟨od, s8 _ _ hL3⟩, rfl, rfl⟩, small (by show 2 ≤ 100000; decide), fun c2 hc2 => ?_⟩
            have nc : ca ≠ c2 := ne_of_none PC.li hc2
            refine ⟨_, by rw [upd_ne nc]; exact PC.li, smallL (by rw [List.length_map]; omega), ?_⟩
            have kp : ∀ b u, H8 b = some u → b ≠ ca → (upd (upd H8 c2 (.tup [.int q.1, .int q.2])) ca (.lst (cas.map V.ref ++ [V.ref c2]))) b = some u := fun b u e hb => by
              rw [upd_ne hb, upd_ne (ne_of_none e hc2)]
              exact e
            have e2 : changedOf r (marked.take (i + 1)) = changedOf r (marked.take i) ++ [q] := filt_yes (f := fun q : Int × Int => decide (q.1 ≠ (r.given : Int)) && decide (r.mrk q.1 ≠ q.2)) hq (by simp [hne, heq])
            refine ⟨fun b u e => kp b u (s8 b u e) (ne_of_none e hca), cas ++ [c2], ?_⟩
            rw [e2]
            exact PC.more kp upd_same (by rw [upd_ne nc.symm, upd_same]; rfl)
      · rintro H8 ⟨s8, cas, PC⟩
        rw [List.length_map, List.take_length] at PC
        have hF8 := s8 _ _ hL3
        refine ⟨hF8, ?_⟩
        -- unlocked
        have k9 : ∀ b u, H8 b = some u → b ≠ fb → (upd H8 fb (.dK (marked.map kvOf))) b = some u := fun b u e hb => by
          rw [upd_ne hb]
          exact e
        have s9 : Same H (upd H8 fb (.dK (marked.map kvOf))) := fun b u e => k9 _ _ (s8 _ _ (kH _ _ e)) (ne_of_none e hfb)
        have hF9 : (upd H8 fb (.dK (marked.map kvOf))) fb = some (.dK (marked.map kvOf)) := upd_same
        have PC9 : PairsAt (upd H8 fb (.dK (marked.map kvOf))) ca cas (changedOf r marked) := ⟨k9 _ _ PC.li (ne_of PC.li hF8 (by intro z; cases z)), PC.len, fun i q h => by
          obtain ⟨c, g1, g2⟩ := PC.at_ i q h
          exact ⟨c, g1, k9 _ _ g2 (ne_of g2 hF8 (by intro z; cases z))⟩⟩
        have SV9 : StV (upd H8 fb (.dK (marked.map kvOf))) stv st := by
          cases st with
          | none => exact hSV
          | some q =>
            obtain ⟨a, h1, h2⟩ := hSV
            have na : a ≠ fb := ne_of h2 hF3 (by intro z; cases z)
            exact ⟨a, h1, k9 _ _ (s8 _ _ (k3' _ _ h2 na)) na⟩
        have hcaN : ca ≠ fb := ne_of PC.li hF8 (by intro z; cases z)
        have hcaH : ∀ b u, H b = some u → b ≠ ca := fun b u e => ne_of_none (kH _ _ e) hca
        change tSeq _ _ _ _ (upd H8 fb (.dK (marked.map kvOf)))
        generalize upd H8 fb (.dK (marked.map kvOf)) = H9 at *
        -- the line
        have hL9 := s9 _ _ hL
        refine ⟨_, rfl, .inl ⟨rfl, _, SqL.of hL9⟩, _, rfl, _, rfl, la, _, _, _, rfl, rfl, hL9, smallL (by rw [List.length_map]; omega), by omega, by omega, ?_⟩
        rw [Int.toNat_natCast, line_ins]
        have nml : m ≠ la := (ne_of hL hM (by intro z; cases z)).symm
        have ndl : da ≠ la := (ne_of hL hD (by intro z; cases z)).symm
        have nfl : fb ≠ la := (ne_of hL9 hF9 (by intro z; cases z)).symm
        have ndf : da ≠ fb := ne_of_none hD hfb
        have nmf : m ≠ fb := ne_of_none hM hfb
        -- the marks
        have hD10 : (upd H9 la (.lst ((ordIns r n).map V.int))) da = some (.dK kvs) := by rw [upd_ne ndl]; exact s9 _ _ hD
        have hF10 : (upd H9 la (.lst ((ordIns r n).map V.int))) fb = some (.dK (marked.map kvOf)) := by rw [upd_ne nfl]; exact hF9
        refine ⟨_, rfl, .inr (.inr (.inl ⟨rfl, .inl ⟨_, hD10⟩⟩)), _, rfl, da, fb, kvs, marked.map kvOf, rfl, rfl, ndf, hD10, hF10, Nat.le_trans (show kvs.length + (marked.map kvOf).length ≤ 200000 by rw [List.length_map]; omega) (by decide), ?_⟩
        have DM := dmid_all G marked [] kvs (DMid.start D hkn) fun q hq => M.keys q hq
        rw [List.nil_append] at DM
        have D' := DMid.done (n := n) M DM
        -- next, coins
        have hM11 : (upd (upd H9 la (.lst ((ordIns r n).map V.int))) da (.dK (mergeK kvs (marked.map kvOf)))) m = some (.dK (pD (r.wide : Int) la da (r.given : Int) r.purse)) := by rw [upd_ne nmd, upd_ne nml]; exact s9 _ _ hM
        refine ⟨_, rfl, _, _, rfl, rfl, _, rfl, m, _, rfl, sNext hM11, ?_⟩
        refine ⟨_, rfl, m, _, rfl, gCoins upd_same, _, rfl, m, _, rfl, gWide upd_same, _, _, rfl, rfl, wide_mul (a := 4) (by decide) (show ((r.wide : Nat) : Int).natAbs < 2 ^ 7 by omega) (by decide) (by decide) (by decide), _, _, rfl, rfl, ?_⟩
        have kf : ∀ b u, H9 b = some u → b ≠ m → b ≠ la → b ≠ da → (upd (upd (upd H9 la (.lst ((ordIns r n).map V.int))) da (.dK (mergeK kvs (marked.map kvOf)))) m (.dK (pD (r.wide : Int) la da ((r.given : Int) + 1) r.purse))) b = some u := fun b u e h1 h2 h3 => by
          rw [upd_ne h1, upd_ne h3, upd_ne h2]
          exact e
        have nCa := hcaH
        have PC12 := kf _ _ PC9.li (hcaH _ _ hM).symm (hcaH _ _ hL).symm (hcaH _ _ hD).symm
        refine ⟨_, rfl, ca, _, rfl, .inl (SqL.of PC12), _, _, rfl, rfl, _, rfl, m, _, rfl, sCoins upd_same, ?_⟩
        rw [upd_upd, List.length_map, PC9.len]
        -- told
        refine ⟨_, rfl, _, rfl, _, rfl, small (by show 3 ≤ 100000; decide), fun tt htt => ?_⟩
        have kg : ∀ b u, H9 b = some u → b ≠ m → b ≠ la → b ≠ da → (upd (upd (upd (upd H9 la (.lst ((ordIns r n).map V.int))) da (.dK (mergeK kvs (marked.map kvOf)))) m (.dK (pD (r.wide : Int) la da ((r.given : Int) + 1) (r.purse + 8 * (r.wide : Int) - ((changedOf r marked).length : Int))))) tt (.tup [.int (r.given : Int), stv, .ref ca])) b = some u := fun b u e h1 h2 h3 => by
          have e2 : (upd (upd (upd H9 la (.lst ((ordIns r n).map V.int))) da (.dK (mergeK kvs (marked.map kvOf)))) m (.dK (pD (r.wide : Int) la da ((r.given : Int) + 1) (r.purse + 8 * (r.wide : Int) - ((changedOf r marked).length : Int))))) b = some u := by
            rw [upd_ne h1, upd_ne h3, upd_ne h2]
            exact e
          exact same_new htt _ _ e2
        refine kS st marked hmf _ tt ca cas stv (fun b u e h1 h2 h3 => kg _ _ (s9 _ _ e) h1 h2 h3) ⟨?_, ?_, ⟨mergeK kvs (marked.map kvOf), ?_, ?_, D'⟩, nmd⟩ ⟨upd_same, ⟨kg _ _ PC9.li (hcaH _ _ hM).symm (hcaH _ _ hL).symm (hcaH _ _ hD).symm, PC9.len, fun i q h => ?_⟩, ?_⟩
        · exact same_new htt _ _ upd_same
        · refine same_new htt _ _ ?_
          rw [upd_ne nml.symm, upd_ne ndl.symm, upd_same]
          rfl
        · refine same_new htt _ _ ?_
          rw [upd_ne nmd.symm, upd_same]
        · exact DM.le
        · obtain ⟨c, g1, g2⟩ := PC9.at_ i q h
          exact ⟨c, g1, kg _ _ g2 (ne_of g2 (s9 _ _ hM) (by intro z; cases z)) (ne_of g2 (s9 _ _ hL) (by intro z; cases z)) (ne_of g2 (s9 _ _ hD) (by intro z; cases z))⟩
        · cases st with
          | none => exact SV9
          | some q =>
            obtain ⟨a, h1, h2⟩ := SV9
            exact ⟨a, h1, kg _ _ h2 (ne_of h2 (s9 _ _ hM) (by intro z; cases z)) (ne_of h2 (s9 _ _ hL) (by intro z; cases z)) (ne_of h2 (s9 _ _ hD) (by intro z; cases z))⟩

theorem ok_tried (T : Txt K mg C CF) (M_put : MetX P w K mg base (L2.CX P w) 4 C "put" (spPut C CF) []) : Cal P w K mg base 5 "_law_tried" (spTried C .non fun t => .ref t) [] := by
  obtain ⟨f, fd, F, hm, b⟩ := T.d__law_tried.ex
  refine ⟨f, fd, _, _, F.ok sc__law_tried (fun vs H Q E h => ?_) (fun cdv A outer s H vs Q E hr h => ?_), hm, F.kp, b, .nil⟩
  · obtain ⟨_, _, _, _, _, rfl, _⟩ := h; rfl
  · obtain ⟨p, l, d, r, o, rfl, S, G, ho, h200, hg, kN, kS⟩ := h
    refine ⟨_, (pss_cons (ps_set (i := 2) sc__law_tried.nd rfl (Or.inl rfl) pe_non)
      (pss_cons (ps_try_only (tb := fun W => tAsg (tMethS C "put" (spPut C CF) [] (WE W) (tVar 0) (tCons (tVar 1) tNil)) (gName 2)) (ts := fun _ _ _ => tAsg (tC .non) (gName 2)) (Wout := fun _ _ _ _ => False) rfl rfl ⟨rfl, by decide, Or.inl T.full.g⟩ takes0
        (fun W pn xe tk _ => (pss_one (ps_set (i := 2) sc__law_tried.nd rfl (Or.inl rfl) (pe_mtS M_put hr (by decide) (fun σ => passAt tk σ) (pv 0) (pa_cons (pv 1) pa_nil)))))
        (fun _ _ _ _ _ _ _ => (pss_one (ps_set (i := 2) sc__law_tried.nd rfl (Or.inl rfl) pe_non))))
      (pss_one (ps_ret (pv 2))))), ?_⟩
    obtain ⟨dx, hob⟩ := S.ob
    refine ⟨_, rfl, p, dx, _, rfl, hob, rfl, _, rfl, p, l, d, r, o, rfl, S, G, ho, h200, hg, fun hno H' e' => ?_, fun st marked hm H' l' t ca cas stv e1 e2 e3 e4 W' T' => ?_⟩
    · exact ⟨true, exm_sub T.full.sb T.full.ic T.full.ty T.full.ss, (fun _ a ha => ⟨_, rfl, kN hno H' e'⟩), (fun q => nomatch q)⟩
    · exact ⟨_, rfl, kS st marked hm H' l' t ca cas stv e1 e2 e3 e4 W' T'⟩

theorem canAll {l : List PyData} (h : ∀ d ∈ l, d.canLay0 = true) : PyData.canLayAll0 l = true := by
  induction l with
  | nil => simp [PyData.canLayAll0]
  | cons a r ih => simp [PyData.canLayAll0, h a (List.mem_cons_self ..), ih fun d hd => h d (List.mem_cons_of_mem _ hd)]
theorem depthAll_le {l : List PyData} {n : Nat} (h : ∀ d ∈ l, d.depth ≤ n) : PyData.depthAll l ≤ n := by
  induction l with
  | nil => simp [PyData.depthAll]
  | cons a r ih =>
    have h1 := h a (List.mem_cons_self ..)
    have h2 := ih fun d hd => h d (List.mem_cons_of_mem _ hd)
    simp only [PyData.depthAll]
    omega
theorem dpAll_of {K : PySem.W.Frag} {H : Hp} {α : Type} : ∀ {xs : List V} {ys : List α} {g : α → PyData}, xs.length = ys.length → (∀ (i : Nat) (v : V) (y : α), xs[i]? = some v → ys[i]? = some y → Dp K H v (g y)) → DpAll K H xs (ys.map g)
  | [], [], _, _, _ => .nil
  | x :: xs, y :: ys, g, hl, h => .cons (h 0 x y rfl rfl) (dpAll_of (Nat.succ.inj hl) fun i v z h1 h2 => h (i + 1) v z h1 h2)
  | [], _ :: _, _, hl, _ => by cases hl
  | _ :: _, [], _, hl, _ => by cases hl
theorem shaped_flat {ds : List PyData} (h2 : ∀ d ∈ ds, d.canLay0 = true) (h3 : ∀ d ∈ ds, d.depth ≤ 5) : SeqAt.shaped (.list ds) = true ∧ (PyData.list ds).canLay0 = true := by
  have e : (PyData.list ds).canLay0 = true := by simp only [PyData.canLay0]; exact canAll h2
  refine ⟨?_, e⟩
  unfold SeqAt.shaped
  rw [e, Bool.true_and, decide_eq_true_eq]
  have h : (PyData.list ds).depth = PyData.depthAll ds + 1 := by simp [PyData.depth]
  rw [h]
  have := depthAll_le (n := 5) h3
  omega

theorem pairs_dp {K : PySem.W.Frag} {H : Hp} {a : Addr} {as : List Addr} {qs : List (Int × Int)} (S : PairsAt H a as qs) : Dp K H (.ref a) (.list (qs.map fun q => .tuple [.int q.1, .int q.2])) := by
  refine .lst (SqL.of S.li) (dpAll_of (by rw [List.length_map, S.len]) fun i v y h1 h2 => ?_)
  obtain ⟨c, g1, g2⟩ := S.at_ i y h2
  rw [List.getElem?_map, g1] at h1
  cases h1
  exact .tup (SqT.of g2) (.cons (.int _) (.cons (.int _) .nil))
theorem shaped_pairs (qs : List (Int × Int)) : SeqAt.shaped (.list (qs.map fun q => PyData.tuple [.int q.1, .int q.2])) = true ∧ (PyData.list (qs.map fun q => PyData.tuple [.int q.1, .int q.2])).canLay0 = true :=
  shaped_flat (fun d hd => by obtain ⟨q, _, rfl⟩ := List.mem_map.mp hd; simp [PyData.canLay0, PyData.canLayAll0]) (fun d hd => by obtain ⟨q, _, rfl⟩ := List.mem_map.mp hd; simp [PyData.depth, PyData.depthAll])

/-! ### what is told, as data -/
def stData : Option (Nat × Int) → PyData
  | none => .none
  | some q => .tuple [.int (q.1 : Int), .int q.2]
def toldData (g : Nat) (st : Option (Nat × Int)) (ch : List (Int × Int)) : PyData := .tuple [.int (g : Int), stData st, .list (ch.map fun q => .tuple [.int q.1, .int q.2])]
theorem told_dp {K : PySem.W.Frag} {H : Hp} {t ca : Addr} {cas : List Addr} {stv : V} {g : Nat} {st : Option (Nat × Int)} {ch : List (Int × Int)} (T : Told H t ca cas stv g st ch) : Dp K H (.ref t) (toldData g st ch) := by
  refine .tup (SqT.of T.tu) (.cons (.int _) (.cons ?_ (.cons (pairs_dp T.ch) .nil)))
  have sv := T.sv
  cases st with
  | none =>
    obtain rfl : stv = .non := sv
    exact .non
  | some q =>
    obtain ⟨a, rfl, h⟩ := sv
    exact .tup (SqT.of h) (.cons (.int _) (.cons (.int _) .nil))
theorem told_ok (g : Nat) (st : Option (Nat × Int)) (ch : List (Int × Int)) : SeqAt.shaped (toldData g st ch) = true ∧ (toldData g st ch).canLay0 = true := by
  have e1 : (stData st).canLay0 = true := by cases st <;> simp [stData, PyData.canLay0, PyData.canLayAll0]
  have e2 := (shaped_pairs ch).2
  have e3 : (toldData g st ch).canLay0 = true := by
    unfold toldData
    simp only [PyData.canLay0]
    exact canAll fun d hd => by
      simp only [List.mem_cons, List.not_mem_nil, or_false] at hd
      rcases hd with e | e | e
      · rw [e]; simp [PyData.canLay0]
      · rw [e]; exact e1
      · rw [e]; exact e2
  refine ⟨?_, e3⟩
  unfold SeqAt.shaped
  rw [e3, Bool.true_and, decide_eq_true_eq]
  have h : (toldData g st ch).depth = PyData.depthAll [.int (g : Int), stData st, .list (ch.map fun q => .tuple [.int q.1, .int q.2])] + 1 := by simp [toldData, PyData.depth]
  rw [h]
  have := depthAll_le (l := [.int (g : Int), stData st, .list (ch.map fun q => .tuple [.int q.1, .int q.2])]) (n := 5) fun d hd => by
    simp only [List.mem_cons, List.not_mem_nil, or_false] at hd
    rcases hd with e | e | e
    · rw [e]; simp [PyData.depth]
    · rw [e]; cases st <;> simp [stData, PyData.depth, PyData.depthAll]
    · rw [e]
      have h2 : (PyData.list (ch.map fun q => PyData.tuple [.int q.1, .int q.2])).depth = PyData.depthAll (ch.map fun q => PyData.tuple [.int q.1, .int q.2]) + 1 := by simp [PyData.depth]
      rw [h2]
      have := depthAll_le (l := ch.map fun q => PyData.tuple [.int q.1, .int q.2]) (n := 3) fun d hd => by obtain ⟨q, _, rfl⟩ := List.mem_map.mp hd; simp [PyData.depth, PyData.depthAll]
      omega
  omega
theorem Told.keep3 {H H' : Hp} {t qa : Addr} {cas : List Addr} {stv : V} {g : Nat} {st : Option (Nat × Int)} {ch : List (Int × Int)} {la m da : Addr} {xs : List V} {ks kd : List (Key × V)} (T : Told H t qa cas stv g st ch) (e : ∀ b u, H b = some u → b ≠ m → b ≠ la → b ≠ da → H' b = some u)
    (h1 : H la = some (.lst xs)) (h2 : H m = some (.dK ks)) (h3 : H da = some (.dK kd)) (n : qa ≠ la) : Told H' t qa cas stv g st ch := by
  have nt : ∀ {b : Addr} {ys : List V}, H b = some (.tup ys) → H' b = some (.tup ys) := fun h => e _ _ h (ne_of h h2 (by intro z; cases z)) (ne_of h h1 (by intro z; cases z)) (ne_of h h3 (by intro z; cases z))
  refine ⟨nt T.tu, ⟨e _ _ T.ch.li (ne_of T.ch.li h2 (by intro z; cases z)) n (ne_of T.ch.li h3 (by intro z; cases z)), T.ch.len, fun i q hq => ?_⟩, ?_⟩
  · obtain ⟨c, g1, g2⟩ := T.ch.at_ i q hq
    exact ⟨c, g1, nt g2⟩
  · have sv := T.sv
    cases st with
    | none => exact sv
    | some q => obtain ⟨a, g1, g2⟩ := sv; exact ⟨a, g1, nt g2⟩
/-- three of them turn -/
theorem Foot.tri {K : PySem.W.Frag} {c : Addr} {ns : List Int} {H H' : Hp} {fs : List (Addr × Ob)} (F : Foot K c ns H fs) (i j k : Nat) {a0 a1 a2 : Addr} {x0 x1 x2 : Ob} (y0 y1 y2 : Ob) (h0 : fs[i]? = some (a0, x0)) (h1 : fs[j]? = some (a1, x1)) (h2 : fs[k]? = some (a2, x2)) (nij : i ≠ j) (nik : i ≠ k) (njk : j ≠ k)
    (e : ∀ b u, H b = some u → b ≠ a0 → b ≠ a1 → b ≠ a2 → H' b = some u) (w0 : ∃ o, H' a0 = some o ∧ y0.ok o) (w1 : ∃ o, H' a1 = some o ∧ y1.ok o) (w2 : ∃ o, H' a2 = some o ∧ y2.ok o) : Foot K c ns H' (((fs.set i (a0, y0)).set j (a1, y1)).set k (a2, y2)) := by
  have n01 := F.ne h0 h1 nij
  have n02 := F.ne h0 h2 nik
  have n12 := F.ne h1 h2 njk
  let H1 : Hp := fun b => if b = a0 then H' b else H b
  let H2 : Hp := fun b => if b = a1 then H' b else H1 b
  let H3 : Hp := fun b => if b = a2 then H' b else H2 b
  have F1 : Foot K c ns H1 (fs.set i (a0, y0)) := F.one y0 h0 (fun b u h hb => by show (if b = a0 then _ else _) = _; rw [if_neg hb]; exact h) (by show ∃ o, (if a0 = a0 then H' a0 else H a0) = some o ∧ _; rw [if_pos rfl]; exact w0)
  have F2 : Foot K c ns H2 ((fs.set i (a0, y0)).set j (a1, y1)) := F1.one y1 (i := j) (a := a1) (x := x1) (set_other nij h1) (fun b u h hb => by show (if b = a1 then _ else _) = _; rw [if_neg hb]; exact h) (by show ∃ o, (if a1 = a1 then H' a1 else H1 a1) = some o ∧ _; rw [if_pos rfl]; exact w1)
  have F3 : Foot K c ns H3 (((fs.set i (a0, y0)).set j (a1, y1)).set k (a2, y2)) := F2.one y2 (i := k) (a := a2) (x := x2) (set_other njk (set_other nik h2)) (fun b u h hb => by show (if b = a2 then _ else _) = _; rw [if_neg hb]; exact h) (by show ∃ o, (if a2 = a2 then H' a2 else H2 a2) = some o ∧ _; rw [if_pos rfl]; exact w2)
  refine F3.same fun b u h => ?_
  by_cases g2 : b = a2
  · have h' : (if b = a2 then H' b else H2 b) = some u := h
    rw [if_pos g2] at h'; exact h'
  · have h' : (if b = a2 then H' b else H2 b) = some u := h
    rw [if_neg g2] at h'
    by_cases g1 : b = a1
    · have h'' : (if b = a1 then H' b else H1 b) = some u := h'
      rw [if_pos g1] at h''; exact h''
    · have h'' : (if b = a1 then H' b else H1 b) = some u := h'
      rw [if_neg g1] at h''
      by_cases g0 : b = a0
      · have h3 : (if b = a0 then H' b else H b) = some u := h''
        rw [if_pos g0] at h3; exact h3
      · have h3 : (if b = a0 then H' b else H b) = some u := h''
        rw [if_neg g0] at h3
        exact e b u h3 g0 g1 g2
def fs7 (a st : Addr) (k : Nat) (p C l d : Addr) (r : R) (m la da : Addr) (q : R) (ca : Addr) (cells : List Int) : List (Addr × Ob) :=
  [(st, .dk (stD a (k : Int))), (p, .rp C l d r), (l, .ls (r.ord.map V.int)), (d, .dm r.given r.ord r.mrk), (m, .dk (pD (q.wide : Int) la da (q.given : Int) q.purse)), (la, .ls (q.ord.map V.int)), (da, .dm q.given q.ord q.mrk), (ca, .ls (cells.map V.int))]
theorem Foot.pat {K : PySem.W.Frag} {a st : Addr} {ns : List Int} {k : Nat} {H : Hp} {p C l d : Addr} {r : R} {m la da : Addr} {q : R} {ca : Addr} {cells : List Int} (F : Foot K a ns H (fs7 a st k p C l d r m la da q ca cells)) : PAt H m la da q :=
  ⟨F.dk 4 rfl, F.li 5 rfl, F.dm 6 rfl, F.ne (i := 4) (j := 6) rfl rfl (by decide)⟩
/-- len(line) > L or n % M == 0 and line != [] -/
theorem test_over {K : PySem.W.Frag} {σ : L2.St} {H : Hp} {Q : Bool → Hp → Prop} {i j : Nat} {N M L : Int} {xs : List Int} {la : Addr} (hi : σ[i]? = some (some (.int N))) (hj : σ[j]? = some (some (.ref la))) (hl : H la = some (.lst (xs.map V.int))) (hM : 0 < M) (hL : 0 ≤ L)
    (q : ∀ b H1, Same H H1 → (b = true → 0 < xs.length) → (b = false → (xs.length : Int) ≤ L) → Q b H1) :
    tOr (tTest (tOp (rI0 fun i j => V.bl (decide (j < i))) (tCB (fun xs H Q => ∃ p ys, xs = [V.ref p] ∧ (SqL K H p ys ∨ SqT K H p ys) ∧ Q (.int ys.length) H) (tCons (tVar j) tNil)) (tC (.int L))))
      (tAnd (tTest (tOp rEq (tOp (rI (fun _ j => 0 < j) fun i j => V.int (i % j)) (tVar i) (tC (.int M))) (tC (.int 0)))) (tTest (tOp (rNeD K) (tVar j) (tLst tNil)))) σ H Q := by
  refine ⟨_, hj, la, _, rfl, .inl (SqL.of hl), _, _, rfl, rfl, _, rfl, ?_⟩
  rw [List.length_map]
  refine ite2d (fun h => ?_) (fun h => ?_)
  · exact q true H (Same.refl _) (fun _ => by omega) (fun z => by cases z)
  · exact test_take hi hj hl hM (fun b H1 s hb => q b H1 s hb fun _ => by omega)
def spLaw (K : PySem.W.Frag) : Sp := fun vs H Q _ => ∃ (a : Addr) (ns : List Int), vs = [.ref a] ∧ ScrF K H a ns ∧ ns.length ≤ 63 ∧ ∀ H', Q (.bl true) H'
theorem ok_law (T : Txt K mg C CF) (G_Row : Mak P w K mg base 2 "Row" C (spInit C) []) (M_take : Met P w K mg base 2 C "take" (spTake C) [])
    (G__law_next : Cal P w K mg base 1 "_law_next" (spNext K) []) (G__law_place : Cal P w K mg base 2 "_law_place" (spLPlace K) []) (G__law_begun : Cal P w K mg base 1 "_law_begun" spBegun []) (G__law_taken : Cal P w K mg base 1 "_law_taken" spTaken [])
    (G__law_tried : Cal P w K mg base 5 "_law_tried" (spTried C .non fun t => .ref t) []) (G__law_put : Cal P w K mg base 2 "_law_put" spLPut []) (G__law_alike : Cal P w K mg base 3 "_law_alike" (spAlike C) [])
    {f : Addr} {fd : FuncData} (F : Fun K "law" "law" s_law f fd) : FnOk P w K mg base CX0 6 f fd ["_law_script"] (spLaw K) := by
  refine F.ok sc_law (fun vs H Q E h => ?_) (fun cdv A outer s H vs Q E hr h => ?_)
  · obtain ⟨_, _, rfl, _⟩ := h; rfl
  · obtain ⟨a, ns, rfl, hS, hlen, kQ⟩ := h
    refine ⟨_, (pss_cons (ps_set (i := 1) sc_law.nd rfl (Or.inl rfl) (pe_disp (pps_cons pe_str (pv 0) (pps_cons pe_str pe_int pps_nil)) (by rfl) (by rfl) (fun z => by cases z) (by decide)))
      (pss_cons (ps_set (i := 2) sc_law.nd rfl (Or.inl rfl) (pe_op op_fdivW (pe_c G__law_next hr (by decide) rfl (pa_cons (pv 1) pa_nil)) pe_int))
      (pss_cons (ps_set (i := 3) sc_law.nd rfl (Or.inl rfl) (pe_ix ix_list (pe_lst (pa_cons (pe_op op_add pe_int (pe_op op_mod (pe_op op_fdivW (pv 2) pe_int) pe_int)) (pa_cons (pe_op op_add pe_int (pe_op op_mod (pe_op op_fdivW (pv 2) pe_int) pe_int)) (pa_cons (pe_op op_add pe_int (pe_op op_mod (pe_op op_fdivW (pv 2) pe_int) pe_int)) (pa_cons pe_int pa_nil))))) (pe_op op_mod (pv 2) pe_int) (fun _ _ => rfl)))
      (pss_cons (ps_set (i := 4) sc_law.nd rfl (Or.inl rfl) (pe_mk G_Row hr (by decide) rfl (pa_cons (pv 3) pa_nil)))
      (pss_cons (ps_set (i := 5) sc_law.nd rfl (Or.inl rfl) (pe_c G__law_begun hr (by decide) rfl (pa_cons (pv 3) pa_nil)))
      (pss_cons (ps_for PassesOwn.never rfl (pi_list (pe_slice sl_list (pv 0) po_none (po_some pe_int))) (pg_name (i := 6) sc_law.nd rfl (Or.inl rfl))
        (pss_cons (ps_set (i := 2) sc_law.nd rfl (Or.inl rfl) (pe_op op_fdivW (pe_c G__law_next hr (by decide) rfl (pa_cons (pv 1) pa_nil)) pe_int))
      (pss_cons (ps_set (i := 7) sc_law.nd rfl (Or.inl rfl) (pe_dget (by exact hu_of hr) (pv 5) pe_str (fun _ _ => rfl)))
      (pss_cut (ps_if (PW.pt (pw_or (pt_cmpR op_gt (pe_callB (id := "len") call_len_seq (by rfl) T.n_len (by decide +kernel) (pa_cons (pv 7) pa_nil)) pe_int (nomark _)) (pw_or1 (PW.pt (pw_and (pt_cmpR op_eq (pe_op op_mod (pv 2) pe_int) pe_int (nomark _)) (pw_and1 (pt_cmpR (op_neD (by exact hu64 hr)) (pv 7) (pe_lst pa_nil) (nomark _)))))))) (pss_cons (ps_set (i := 8) sc_law.nd rfl (Or.inl rfl) (pe_ix ix_list (pv 7) (pe_op op_mod (pe_op op_fdivW (pv 2) pe_int) (pe_callB (id := "len") call_len_seq (by rfl) T.n_len (by decide +kernel) (pa_cons (pv 7) pa_nil))) (fun _ _ => rfl)))
      (pss_cons (ps_expr (pe_mt M_take hr (by decide) (pv 4) (pa_cons (pv 8) pa_nil)))
      (pss_one (ps_expr (pe_c G__law_taken hr (by decide) rfl (pa_cons (pv 5) (pa_cons (pv 8) pa_nil))))))) (pss_one (ps_for PassesOwn.never rfl (pi_range1 (by rfl) T.n_range (pa_cons (pe_op op_add pe_int (pe_op op_mod (pe_op op_add (pv 6) (pe_op op_fdivW (pv 2) pe_int)) pe_int)) pa_nil)) (pg_name (i := 9) sc_law.nd rfl (Or.inl rfl))
        (pss_cons (ps_set (i := 8) sc_law.nd rfl (Or.inl rfl) (pe_c G__law_place hr (by decide) rfl (pa_cons (pv 1) (pa_cons (pv 5) pa_nil))))
      (pss_one (ps_if (pt_cmpR (op_neD (by exact hu64 hr)) (pe_c G__law_tried hr (by decide) rfl (pa_cons (pv 4) (pa_cons (pv 8) pa_nil))) (pe_c G__law_put hr (by decide) rfl (pa_cons (pv 5) (pa_cons (pv 8) pa_nil))) (nomark _)) (pss_one (ps_ret pe_bl)) pss_nil))))))
      (pss_one (ps_if (pt_not (pt_val (pe_c G__law_alike hr (by decide) rfl (pa_cons (pv 4) (pa_cons (pv 5) pa_nil))))) (pss_one (ps_ret pe_bl)) pss_nil))))))
      (pss_one (ps_ret pe_bl)))))))), ?_⟩
    -- state
    refine fun st hst => ⟨_, rfl, upd_same, stD a 0, rfl, by show 2 ≤ 15; decide, ?_⟩
    rw [stD_new, upd_upd]
    have F1 : Foot K a ns (upd H st (.dK (stD a ((0 : Nat) : Int)))) [(st, .dk (stD a ((0 : Nat) : Int)))] := Foot.start upd_same (hS.keep fun o u h => (same_new hst) _ _ h)
    change tSeq _ _ _ _ (upd H st (.dK (stD a ((0 : Nat) : Int))))
    generalize upd H st (.dK (stD a ((0 : Nat) : Int))) = H1 at *
    -- width
    refine ⟨_, rfl, st, a, 0, ns, rfl, F1.st 0 rfl, by omega, by omega, fun n H2 hn0 hn1 k2 S2 => ?_⟩
    refine ⟨_, _, rfl, rfl, ⟨by decide, by decide⟩, ?_⟩
    have F2 : Foot K a ns H2 [(st, .dk (stD a ((1 : Nat) : Int)))] := F1.one _ (i := 0) rfl k2 ⟨_, S2.dc, rfl⟩
    dsimp only
    have hN0 : 0 ≤ n / 3 := by omega
    generalize n / 3 = N at *
    obtain ⟨wd, w4, w60, hwd⟩ : ∃ W : Nat, 4 ≤ W ∧ W ≤ 60 ∧ atI [V.int (4 + N / 4 % 8), V.int (12 + N / 4 % 8), V.int (4 + N / 4 % 57), V.int 16] (N % 4) = some (.int (W : Int)) := by
      have h : N % 4 = 0 ∨ N % 4 = 1 ∨ N % 4 = 2 ∨ N % 4 = 3 := by omega
      rcases h with e | e | e | e
      · exact ⟨(4 + N / 4 % 8).toNat, by omega, by omega, by rw [e, Int.toNat_of_nonneg (by omega)]; rfl⟩
      · exact ⟨(12 + N / 4 % 8).toNat, by omega, by omega, by rw [e, Int.toNat_of_nonneg (by omega)]; rfl⟩
      · exact ⟨(4 + N / 4 % 57).toNat, by omega, by omega, by rw [e, Int.toNat_of_nonneg (by omega)]; rfl⟩
      · exact ⟨16, by omega, by omega, by rw [e]; rfl⟩
    refine ⟨_, rfl, _, _, rfl, rfl, ⟨by decide, by decide⟩, _, _, rfl, rfl, by (show (0 : Int) < _; first | decide | omega), _, _, rfl, rfl, ?_⟩
    refine ⟨_, rfl, _, _, rfl, rfl, ⟨by decide, by decide⟩, _, _, rfl, rfl, by (show (0 : Int) < _; first | decide | omega), _, _, rfl, rfl, ?_⟩
    refine ⟨_, rfl, _, _, rfl, rfl, ⟨by decide, by decide⟩, _, _, rfl, rfl, by (show (0 : Int) < _; first | decide | omega), _, _, rfl, rfl, ?_⟩
    refine ⟨small (by show 4 ≤ 100000; decide), fun wl hwl => ?_⟩
    refine ⟨_, rfl, _, _, rfl, rfl, by (show (0 : Int) < _; first | decide | omega), wl, _, _, _, rfl, rfl, SqL.of upd_same, hwd, ?_⟩
    have F2' := F2.same (same_new (o := .lst [V.int (4 + N / 4 % 8), V.int (12 + N / 4 % 8), V.int (4 + N / 4 % 57), V.int 16]) hwl)
    change tSeq _ _ _ _ (upd H2 wl (.lst [V.int (4 + N / 4 % 8), V.int (12 + N / 4 % 8), V.int (4 + N / 4 % 57), V.int 16]))
    generalize upd H2 wl (.lst [V.int (4 + N / 4 % 8), V.int (12 + N / 4 % 8), V.int (4 + N / 4 % 57), V.int 16]) = H2' at *
    -- row
    refine ⟨_, rfl, ?_⟩
    intro p dx hp hdx hne
    refine ⟨p, dx, wd, _, rfl, rfl, upd_same, w4, w60, fun H3 l d k3 hl hd W3 => ⟨rfl, ?_⟩⟩
    obtain ⟨s23, hl2, hd2⟩ := made hp hdx k3 hl hd
    have G3 : Good (newR wd) := good_new w4 w60
    have F3 : Foot K a ns H3 _ := F2'.addRow s23 hp hl2 hd2 W3
    -- m
    refine ⟨_, rfl, _, rfl, fun H4 m la da s4 hm hla hda n1 n2 n3 hM4 hL4 hD4 => ?_⟩
    have F4 : Foot K a ns H4 [(st, .dk (stD a ((1 : Nat) : Int))), (p, .rp C l d (newR wd)), (l, .ls ((newR wd).ord.map V.int)), (d, .dm (newR wd).given (newR wd).ord (newR wd).mrk), (m, .dk (pD (wd : Int) la da 0 0)), (la, .ls []), (da, .dm 0 [] fun _ => 0)] := by
      have g := F3.same s4
      have f1 := F3.fresh hm
      have f2 := F3.fresh hla
      have f3 := F3.fresh hda
      refine ⟨?_, fun z hz => ?_, g.scr⟩
      · show ([st, p, l, d] ++ [m, la, da]).Nodup
        rw [List.nodup_append]
        refine ⟨g.nd, ?_, fun y hy z hz => ?_⟩
        · simp [n1, n2, n3]
        · intro e
          subst e
          simp only [List.mem_cons, List.not_mem_nil, or_false] at hz
          rcases hz with z | z | z
          · exact f1 (z ▸ hy)
          · exact f2 (z ▸ hy)
          · exact f3 (z ▸ hy)
      · have hz' : z ∈ [(st, Ob.dk (stD a ((1 : Nat) : Int))), (p, .rp C l d (newR wd)), (l, .ls ((newR wd).ord.map V.int)), (d, .dm (newR wd).given (newR wd).ord (newR wd).mrk)] ++ [(m, .dk (pD (wd : Int) la da 0 0)), (la, .ls []), (da, .dm 0 [] fun _ => 0)] := hz
        rcases List.mem_append.mp hz' with h | h
        · exact g.at_ z h
        · simp only [List.mem_cons, List.not_mem_nil, or_false] at h
          rcases h with e | e | e
          · rw [e]; exact ⟨_, hM4, rfl⟩
          · rw [e]; exact ⟨_, hL4, rfl⟩
          · rw [e]; exact ⟨_, hD4, [], rfl, Nat.le_refl _, List.nodup_nil, fun x => rfl⟩
    -- the cells
    refine ⟨_, rfl, _, rfl, a, _, rfl, F4.scr.sq, fun ca hca => ⟨ca, rfl, ⟨_, SqL.of upd_same⟩, ?_⟩⟩
    have F5 := F4.pli (ys := cutV (ns.map V.int) none (some 60)) hca
    have e60 : cutV (ns.map V.int) none (some 60) = (ns.take 60).map V.int := by
      rw [show (some (60 : Int)) = some ((60 : Nat) : Int) from rfl, cut_to, List.map_take]
    rw [e60] at F5 ⊢
    have F6 : Foot K a ns (upd H4 ca (.lst ((ns.take 60).map V.int))) (fs7 a st 1 p C l d (newR wd) m la da (newR wd) ca (ns.take 60)) := F5
    have hg0 : (newR wd).given = 0 := rfl
    have ho0 : (newR wd).ord = [] := rfl
    have hwid : wd = (newR wd).wide := rfl
    generalize upd H4 ca (.lst ((ns.take 60).map V.int)) = H6 at *
    have hcl : (ns.take 60).length ≤ 60 := List.length_take_le ..
    generalize ns.take 60 = cells at *
    clear F1 F2 F2' F3 F4 F5 hM4 hL4 hD4 W3
    generalize newR wd = r0 at *
    subst hwid
    refine for_list (K := K) (a := ca) (xs := cells.map V.int) (fun i σ H' => ∃ k l r, k ≤ 1 + 10 * i ∧ r.given ≤ 5 * i ∧ r.ord.length ≤ 95 ∧ Good r ∧ Foot K a ns H' (fs7 a st k p C l d r m la da r ca cells) ∧ ∃ z2 z6 z7 z8 z9, σ = [some (.ref a), some (.ref st), z2, some (.int (r.wide : Int)), some (.ref p), some (.ref m), z6, z7, z8, z9])
      ⟨1, l, r0, by omega, by omega, by rw [ho0]; exact Nat.zero_le _, G3, F6, _, none, none, none, none, rfl⟩ (fun i σ H' _ q => by obtain ⟨k, l, r, _, _, _, _, F, _⟩ := q; exact SqL.of (F.li 7 rfl)) ?_ ?_
    · rintro i x σ H7 hi ⟨k, l, r, hk, hg, hol, G, F7, z2, z6, z7, z8, z9, rfl⟩
      have hi60 : i < 60 := by
        have := (List.getElem?_eq_some_iff.mp hi).1
        rw [List.length_map] at this
        omega
      obtain ⟨y, _, rfl⟩ := int_of hi
      -- n, line
      refine ⟨_, rfl, st, a, k, ns, rfl, F7.st 0 rfl, by omega, by omega, fun n H8 hn0 hn1 k8 S8 => ?_⟩
      have F8 : Foot K a ns H8 (fs7 a st (k + 1) p C l d r m la da r ca cells) := F7.one _ (i := 0) rfl k8 ⟨_, S8.dc, rfl⟩
      refine ⟨_, _, rfl, rfl, ⟨by decide, by decide⟩, ?_⟩
      dsimp only
      have hM0 : 0 ≤ n / 3 := by omega
      generalize n / 3 = M at *
      refine ⟨_, rfl, m, _, rfl, gLine (F8.dk 4 rfl), ?_⟩
      -- the two ways
      refine ⟨fun σ' H' => ∃ k l r', k ≤ 1 + 10 * (i + 1) ∧ r'.given ≤ 5 * (i + 1) ∧ r'.ord.length ≤ 95 ∧ Good r' ∧ r'.wide = r.wide ∧ Foot K a ns H' (fs7 a st k p C l d r' m la da r' ca cells) ∧ ∃ z8 z9, σ' = [some (.ref a), some (.ref st), some (.int M), some (.int (r.wide : Int)), some (.ref p), some (.ref m), some (.int y), some (.ref la), z8, z9], ?_, ?_⟩
      · refine test_over rfl rfl (F8.li 5 rfl) (by decide) (by decide) (fun b H9 s9 hb hb2 => ?_)
        have F9 := F8.same s9
        refine iteOf (fun hy => ?_) (fun hn => ?_)
        · -- one is taken
          obtain ⟨x, hx, hat⟩ := ix_mod (hb hy) (M / 7)
          have W9 := F9.row 1 2 3 rfl rfl rfl
          have hL9 := F9.li 5 rfl
          obtain ⟨dxr, hob⟩ := W9.ob
          refine ⟨_, rfl, _, rfl, _, _, rfl, rfl, ⟨by decide, by decide⟩, _, rfl, la, _, rfl, .inl (SqL.of hL9), _, _, rfl, rfl, by rw [List.length_map]; have := hb hy; omega, la, _, _, _, rfl, rfl, SqL.of hL9, hat, ?_⟩
          refine ⟨_, rfl, p, dxr, _, rfl, hob, rfl, _, rfl, p, l, d, r, x, rfl, W9, G, hx, fun H10 k10 W10 => ?_⟩
          have F10 : Foot K a ns H10 (fs7 a st (k + 1) p C l d (takeR r x) m la da r ca cells) := F9.turn 1 2 3 rfl rfl rfl (by decide) (by decide) (by decide) (fun b u h _ h2 h3 => k10 b u h h2 h3) (.inl rfl) W10
          have S10 := F10.pat
          refine ⟨_, rfl, _, rfl, m, la, da, _, _, _, r, x, rfl, G, hx, S10.dc, S10.li, S10.di, S10.ne, fun kvs' h1 h2 => ?_⟩
          have F11 : Foot K a ns _ (fs7 a st (k + 1) p C l d (takeR r x) m la da (takeR r x) ca cells) := (F10.uli 5 ((takeR r x).ord.map V.int) rfl).one (.dm r.given (takeR r x).ord r.mrk) (i := 6) rfl (fun b u h hb => by rw [upd_ne hb]; exact h) ⟨_, upd_same, kvs', rfl, h1, h2⟩
          exact ⟨k + 1, l, takeR r x, by omega, by show r.given ≤ _; omega, Nat.le_trans (List.length_erase_le ..) hol, good_take G, rfl, F11, _, _, rfl⟩
        · -- some are put
          have h90 := hb2 hn
          have ht0 : 0 ≤ (y + M / 7) % 5 := Int.emod_nonneg _ (by decide)
          have ht1 : (y + M / 7) % 5 < 5 := Int.emod_lt_of_pos _ (by decide)
          refine ⟨_, rfl, _, rfl, _, _, rfl, rfl, ⟨by decide, by decide⟩, _, _, rfl, rfl, _, _, rfl, rfl, by (show (0 : Int) < _; first | decide | omega), _, _, rfl, rfl, _, rfl, by omega, by omega, ?_⟩
          have hT : (1 + (y + M / 7) % 5).toNat ≤ 5 := by omega
          generalize (1 + (y + M / 7) % 5).toNat = turns at *
          refine for_range (lo := 0) (n := turns) (fun j σ' H' => ∃ k l r', k ≤ 2 + 10 * i + j ∧ r'.given ≤ 5 * i + j ∧ r'.ord.length ≤ 90 + j ∧ Good r' ∧ r'.wide = r.wide ∧ Foot K a ns H' (fs7 a st k p C l d r' m la da r' ca cells) ∧ ∃ z8 z9, σ' = [some (.ref a), some (.ref st), some (.int M), some (.int (r.wide : Int)), some (.ref p), some (.ref m), some (.int y), some (.ref la), z8, z9])
            ⟨k + 1, l, r, by omega, by omega, by omega, G, rfl, F9, _, _, rfl⟩ ?_ ?_
          · rintro j σ H12 hj ⟨k', l, r', hk', hg', hol', G', hw', F12, z8, z9, rfl⟩
            refine ⟨_, rfl, _, rfl, st, a, m, la, _, k', r'.given, ns, r'.ord, rfl, F12.st 0 rfl, by omega, by omega, ⟨F12.dk 4 rfl, pD_line, pD_next, F12.li 5 rfl⟩, by omega, F12.ne (i := 0) (j := 4) rfl rfl (by decide), fun o H13 ho k13 S13 => ?_⟩
            have F13 : Foot K a ns H13 (fs7 a st (k' + 1) p C l d r' m la da r' ca cells) := F12.one _ (i := 0) rfl k13 ⟨_, S13.dc, rfl⟩
            have hpl := place_le ho
            refine ⟨_, rfl, _, rfl, p, l, d, r', o, rfl, F13.row 1 2 3 rfl rfl rfl, G', ho, by omega, by omega, fun hno H14 s14 => ?_, fun st' marked hm H14 l' t1 ca1 cas1 stv1 e1 e2 e3 e4 W14 T14 => ?_⟩
            · have F14 := F13.same s14
              refine ⟨_, rfl, _, rfl, m, la, da, r', o, rfl, F14.pat, G', ho, by omega, by omega, fun _ H15 s15 => ?_, fun st' marked hm => absurd hno (by rw [hm]; simp)⟩
              refine ⟨.none, .none, .non, .non, rfl, rfl, _, rfl, ?_⟩
              rw [show PyData.eqv .none .none = true by simp [PyData.eqv]]
              refine iteF ?_
              exact ⟨k' + 1, l, r', by omega, by omega, by omega, G', hw', F14.same s15, _, _, rfl⟩
            · have F14 : Foot K a ns H14 (fs7 a st (k' + 1) p C l' d (putR r' (placeOf r' o) marked) m la da r' ca cells) := F13.turn 1 2 3 rfl rfl rfl (by decide) (by decide) (by decide) (fun b u h h1 _ h3 => e1 b u h h1 h3) (.inr e2) W14
              have S14 := F14.pat
              obtain ⟨kd, hD, _⟩ := S14.di
              have nca : ca1 ≠ la := (ne_of_none (F13.li 5 rfl) e3).symm
              refine ⟨_, rfl, _, rfl, m, la, da, r', o, rfl, S14, G', ho, by omega, by omega, fun hno => absurd hno (by rw [hm]; simp), fun st2 marked2 hm2 H15 t2 ca2 cas2 stv2 f1 S15 T15 => ?_⟩
              have hmm := Option.some.inj (hm.symm.trans hm2)
              obtain rfl : st' = st2 := congrArg Prod.fst hmm
              obtain rfl : marked = marked2 := congrArg Prod.snd hmm
              have T14' := T14.keep3 f1 S14.li S14.dc hD nca
              refine ⟨_, _, told_dp T14', told_dp T15, (told_ok ..).1, (told_ok ..).1, _, rfl, ?_⟩
              rw [SeqAt.eqv_refl _ (told_ok ..).2]
              refine iteF ?_
              obtain ⟨k3, d1, d2, d3⟩ := S15.di
              have F15 : Foot K a ns H15 (fs7 a st (k' + 1) p C l' d (putR r' (placeOf r' o) marked) m la da (putR r' (placeOf r' o) marked) ca cells) := F14.tri 4 5 6 (.dk (pD ((putR r' (placeOf r' o) marked).wide : Int) la da ((putR r' (placeOf r' o) marked).given : Int) (putR r' (placeOf r' o) marked).purse)) (.ls ((putR r' (placeOf r' o) marked).ord.map V.int)) (.dm (putR r' (placeOf r' o) marked).given (putR r' (placeOf r' o) marked).ord (putR r' (placeOf r' o) marked).mrk) rfl rfl rfl (by decide) (by decide) (by decide) f1 ⟨_, S15.dc, rfl⟩ ⟨_, S15.li, rfl⟩ ⟨_, d1, k3, rfl, d2, d3⟩
              exact ⟨k' + 1, l', putR r' (placeOf r' o) marked, by omega, by show r'.given + 1 ≤ _; omega, by show (ordIns r' _).length ≤ _; rw [ins_len]; omega, good_put G' hpl (by omega) (by omega) hm, hw', F15, _, _, rfl⟩
          · rintro σ H12 ⟨k', l, r', hk', hg', hol', G', hw', F12, z8, z9, rfl⟩
            exact ⟨k', l, r', by omega, by omega, by omega, G', hw', F12, _, _, rfl⟩
      · rintro σ H9 ⟨k, l, r', hk, hg, hol, G', hw', F9, z8, z9, rfl⟩
        have S9 := F9.pat
        obtain ⟨kvs, hD, _, D⟩ := S9.di
        refine ⟨_, rfl, _, rfl, p, l, d, m, la, da, _, _, r', kvs, rfl, F9.row 1 2 3 rfl rfl rfl, G', S9.dc, S9.li, hD, D, fun H10 s10 => ⟨_, rfl, iteF ?_⟩⟩
        exact ⟨k, l, r', hk, hg, hol, G', F9.same s10, _, _, _, _, _, by rw [hw']⟩
    · rintro σ H7 ⟨k, l, r, hk, hg, hol, G, F7, z2, z6, z7, z8, z9, rfl⟩
      exact kQ _

/-! ### all that the row promises -/
structure AllRow (P : Program) (w : World) (K : PySem.W.Frag) (mg : Str → Option Value) (base : Heap) (C CF : Addr) : Prop where
  init : Mak P w K mg base 2 "Row" C (spInit C) []
  put : MetX P w K mg base (L2.CX P w) 4 C "put" (spPut C CF) [] ∧ MetX P w K mg base (L2.CX P w) 4 C "put" (spPut C CF) [.non]
  take : Met P w K mg base 2 C "take" (spTake C) []
  things : Met P w K mg base 1 C "things" (spThings C) []
  chk : Met P w K mg base 1 C "_check_thing" (spChk C) []
theorem all_row (T : Txt K mg C CF) : AllRow P w K mg base C CF :=
  have g1 : Cal P w K mg base 1 "check_within" spCheck [] := ok_check_within T
  have g2 : Cal P w K mg base 1 "power" spPower [] := ok_power T
  have g3 : Cal P w K mg base 2 "is_too_full" spToo [] := ok_is_too_full T g1 g2
  have g4 : Cal P w K mg base 2 "stretch_at" spAt [] := ok_stretch_at T g1
  have g5 : Cal P w K mg base 2 "spread" spSpread [] := ok_spread T g1
  have m1 : Met P w K mg base 1 C "_check_thing" (spChk C) [] := ok_chk T
  have m2 : Met P w K mg base 2 C "_place_behind" (spPlace C) [] := ok_place T m1
  have m3 : Met P w K mg base 1 C "_marks_around" (spAround C) [] := ok_around T
  have m4 : Met P w K mg base 1 C "_lies_in" (spLies C) [] := ok_lies T
  have m5 : MetX P w K mg base (L2.CX P w) 3 C "_stretch_to_spread" (spSeek C CF) [] := ok_seek T m4 g4 g3
  have m6 : Met P w K mg base 3 C "_spread_marks" (spSpreadM C) [] := ok_spreadM T m4 g5
  ⟨ok_init T g1, ok_put T fun F => ok_putF T m2 m3 m5 m6 F, ok_take T m1, ok_things T, m1⟩

theorem ok_all (T : Txt K mg C CF) {f : Addr} {fd : FuncData} (F : Fun K "law" "law" s_law f fd) : FnOk P w K mg base CX0 6 f fd ["_law_script"] (spLaw K) :=
  have A := all_row (P := P) (w := w) (base := base) T
  have M := ok_mark (P := P) (w := w) (base := base) T A.chk
  ok_law T A.init A.take (ok__law_next T) (ok__law_place T (ok__law_next T)) (ok_begun T) (ok_taken T) (ok_tried T A.put.1) (ok_lput T (ok__law_too_many T)) (ok_alike T M A.things (ok_purse T)) F
end
theorem all_mk {l : PySem.W.OpenLaw} {w : World} {K : PySem.W.Frag} {h : Heap} {mg : Str → Option Value} {fa : Addr} {C : Addr} {fI : Addr} {odI anI : Option Addr} {slI : Array (Option Value)} {ocI kVI dcI pmI cdI ctI : Value} {Tq : Addr} {otq : Value} {odq : Option Addr} {ntq : Nat} {slq : Array (Option Value)} {fP : Addr} {odP anP : Option Addr} {slP : Array (Option Value)} {ocP kVP dcP pmP cdP ctP : Value} {fm23 : Addr} {odm23 anm23 : Option Addr} {slm23 : Array (Option Value)} {ocm23 kVm23 dcm23 pmm23 cdm23 ctm23 : Value} {fm28 : Addr} {odm28 anm28 : Option Addr} {slm28 : Array (Option Value)} {ocm28 kVm28 dcm28 pmm28 cdm28 ctm28 : Value} {fm33 : Addr} {odm33 anm33 : Option Addr} {slm33 : Array (Option Value)} {ocm33 kVm33 dcm33 pmm33 cdm33 ctm33 : Value} {fm38 : Addr} {odm38 anm38 : Option Addr} {slm38 : Array (Option Value)} {ocm38 kVm38 dcm38 pmm38 cdm38 ctm38 : Value} {fm43 : Addr} {odm43 anm43 : Option Addr} {slm43 : Array (Option Value)} {ocm43 kVm43 dcm43 pmm43 cdm43 ctm43 : Value} {fm48 : Addr} {odm48 anm48 : Option Addr} {slm48 : Array (Option Value)} {ocm48 kVm48 dcm48 pmm48 cdm48 ctm48 : Value} {fm53 : Addr} {odm53 anm53 : Option Addr} {slm53 : Array (Option Value)} {ocm53 kVm53 dcm53 pmm53 cdm53 ctm53 : Value} {fm58 : Addr} {odm58 anm58 : Option Addr} {slm58 : Array (Option Value)} {ocm58 kVm58 dcm58 pmm58 cdm58 ctm58 : Value} {CF : Addr} {f1 : Addr} {od1 an1 : Option Addr} {sl1 : Array (Option Value)} {oc1 kV1 dc1 pm1 cd1 ct1 : Value} {f2 : Addr} {od2 an2 : Option Addr} {sl2 : Array (Option Value)} {oc2 kV2 dc2 pm2 cd2 ct2 : Value} {f3 : Addr} {od3 an3 : Option Addr} {sl3 : Array (Option Value)} {oc3 kV3 dc3 pm3 cd3 ct3 : Value} {f4 : Addr} {od4 an4 : Option Addr} {sl4 : Array (Option Value)} {oc4 kV4 dc4 pm4 cd4 ct4 : Value} {f5 : Addr} {od5 an5 : Option Addr} {sl5 : Array (Option Value)} {oc5 kV5 dc5 pm5 cd5 ct5 : Value} {t_MOST_LEVEL : Tok} {t_MOST_SPREAD : Tok} {t_LEAST_WIDE : Tok} {t_MOST_WIDE : Tok} {t_MOST_THINGS : Tok} {t_PAID_FOR_EACH_WIDE : Tok} {fm104 : Addr} {odm104 anm104 : Option Addr} {slm104 : Array (Option Value)} {ocm104 kVm104 dcm104 pmm104 cdm104 ctm104 : Value} {fm109 : Addr} {odm109 anm109 : Option Addr} {slm109 : Array (Option Value)} {ocm109 kVm109 dcm109 pmm109 cdm109 ctm109 : Value} {f6 : Addr} {od6 an6 : Option Addr} {sl6 : Array (Option Value)} {oc6 kV6 dc6 pm6 cd6 ct6 : Value} {f7 : Addr} {od7 an7 : Option Addr} {sl7 : Array (Option Value)} {oc7 kV7 dc7 pm7 cd7 ct7 : Value} {f8 : Addr} {od8 an8 : Option Addr} {sl8 : Array (Option Value)} {oc8 kV8 dc8 pm8 cd8 ct8 : Value} {f9 : Addr} {od9 an9 : Option Addr} {sl9 : Array (Option Value)} {oc9 kV9 dc9 pm9 cd9 ct9 : Value} {f10 : Addr} {od10 an10 : Option Addr} {sl10 : Array (Option Value)} {oc10 kV10 dc10 pm10 cd10 ct10 : Value} {f11 : Addr} {od11 an11 : Option Addr} {sl11 : Array (Option Value)} {oc11 kV11 dc11 pm11 cd11 ct11 : Value} {f12 : Addr} {od12 an12 : Option Addr} {sl12 : Array (Option Value)} {oc12 kV12 dc12 pm12 cd12 ct12 : Value} {f13 : Addr} {od13 an13 : Option Addr} {sl13 : Array (Option Value)} {oc13 kV13 dc13 pm13 cd13 ct13 : Value} {f14 : Addr} {od14 an14 : Option Addr} {sl14 : Array (Option Value)} {oc14 kV14 dc14 pm14 cd14 ct14 : Value} (X : K.In h) (G : h.Ns mainGlobals mg) (hfa : mg "law" = some (.ref fa))
    (aC : PySem.W.nsIn K mainGlobals "Row" = some (some (.ref C)))
    (pg : PySem.W.plainGet K C Str.empty = true)
    (hd : PySem.W.hasDictIn K C = true)
    (po : PySem.W.plainOver K C = true)
    (sa : PySem.W.findIn K (.ref C) "__setattr__" = some (some (.builtin "object.__setattr__")))
    (nW : PySem.W.findIn K (.ref C) "_wide" = some none)
    (nO : PySem.W.findIn K (.ref C) "_order" = some none)
    (nM : PySem.W.findIn K (.ref C) "_marks" = some none)
    (nG : PySem.W.findIn K (.ref C) "_given" = some none)
    (nP : PySem.W.findIn K (.ref C) "_purse" = some none)
    (aI : PySem.W.findIn K (.ref C) "__init__" = some (some (.ref fI)))
    (iI : PySem.W.isFn K (.ref fI) = true)
    (lI : K.lookup fI = some ⟨ocI, odI, .func (PySem.W.fnOf "__init__" "Row.__init__" (defArgs s_Row___init__) (defBody s_Row___init__) (defScope s_Row___init__) .none kVI dcI pmI anI cdI ctI), slI⟩)
    (cI : PySem.W.codeIn K cdI "Row.__init__" = true)
    (kI : PySem.W.keepIn K (.ref fI) = true)
    (mkC : PySem.W.makesIn K C = true)
    (kpC : PySem.W.keepIn K (.ref C) = true)
    (aP : PySem.W.findIn K (.ref C) "put" = some (some (.ref fP)))
    (iP : PySem.W.isFn K (.ref fP) = true)
    (lP : K.lookup fP = some ⟨ocP, odP, .func (PySem.W.fnOf "put" "Row.put" (defArgs s_Row_put) (defBody s_Row_put) (defScope s_Row_put) (.ref Tq) kVP dcP pmP anP cdP ctP), slP⟩)
    (cP : PySem.W.codeIn K cdP "Row.put" = true)
    (kP : PySem.W.keepIn K (.ref fP) = true)
    (lT : K.lookup Tq = some ⟨otq, odq, .seq #[.none] ntq, slq⟩)
    (am23 : PySem.W.findIn K (.ref C) "take" = some (some (.ref fm23)))
    (im23 : PySem.W.isFn K (.ref fm23) = true)
    (lm23 : K.lookup fm23 = some ⟨ocm23, odm23, .func (PySem.W.fnOf "take" "Row.take" (defArgs s_Row_take) (defBody s_Row_take) (defScope s_Row_take) .none kVm23 dcm23 pmm23 anm23 cdm23 ctm23), slm23⟩)
    (cm23 : PySem.W.codeIn K cdm23 "Row.take" = true)
    (km23 : PySem.W.keepIn K (.ref fm23) = true)
    (am28 : PySem.W.findIn K (.ref C) "things" = some (some (.ref fm28)))
    (im28 : PySem.W.isFn K (.ref fm28) = true)
    (lm28 : K.lookup fm28 = some ⟨ocm28, odm28, .func (PySem.W.fnOf "things" "Row.things" (defArgs s_Row_things) (defBody s_Row_things) (defScope s_Row_things) .none kVm28 dcm28 pmm28 anm28 cdm28 ctm28), slm28⟩)
    (cm28 : PySem.W.codeIn K cdm28 "Row.things" = true)
    (km28 : PySem.W.keepIn K (.ref fm28) = true)
    (am33 : PySem.W.findIn K (.ref C) "_check_thing" = some (some (.ref fm33)))
    (im33 : PySem.W.isFn K (.ref fm33) = true)
    (lm33 : K.lookup fm33 = some ⟨ocm33, odm33, .func (PySem.W.fnOf "_check_thing" "Row._check_thing" (defArgs s_Row__check_thing) (defBody s_Row__check_thing) (defScope s_Row__check_thing) .none kVm33 dcm33 pmm33 anm33 cdm33 ctm33), slm33⟩)
    (cm33 : PySem.W.codeIn K cdm33 "Row._check_thing" = true)
    (km33 : PySem.W.keepIn K (.ref fm33) = true)
    (am38 : PySem.W.findIn K (.ref C) "_place_behind" = some (some (.ref fm38)))
    (im38 : PySem.W.isFn K (.ref fm38) = true)
    (lm38 : K.lookup fm38 = some ⟨ocm38, odm38, .func (PySem.W.fnOf "_place_behind" "Row._place_behind" (defArgs s_Row__place_behind) (defBody s_Row__place_behind) (defScope s_Row__place_behind) .none kVm38 dcm38 pmm38 anm38 cdm38 ctm38), slm38⟩)
    (cm38 : PySem.W.codeIn K cdm38 "Row._place_behind" = true)
    (km38 : PySem.W.keepIn K (.ref fm38) = true)
    (am43 : PySem.W.findIn K (.ref C) "_marks_around" = some (some (.ref fm43)))
    (im43 : PySem.W.isFn K (.ref fm43) = true)
    (lm43 : K.lookup fm43 = some ⟨ocm43, odm43, .func (PySem.W.fnOf "_marks_around" "Row._marks_around" (defArgs s_Row__marks_around) (defBody s_Row__marks_around) (defScope s_Row__marks_around) .none kVm43 dcm43 pmm43 anm43 cdm43 ctm43), slm43⟩)
    (cm43 : PySem.W.codeIn K cdm43 "Row._marks_around" = true)
    (km43 : PySem.W.keepIn K (.ref fm43) = true)
    (am48 : PySem.W.findIn K (.ref C) "_stretch_to_spread" = some (some (.ref fm48)))
    (im48 : PySem.W.isFn K (.ref fm48) = true)
    (lm48 : K.lookup fm48 = some ⟨ocm48, odm48, .func (PySem.W.fnOf "_stretch_to_spread" "Row._stretch_to_spread" (defArgs s_Row__stretch_to_spread) (defBody s_Row__stretch_to_spread) (defScope s_Row__stretch_to_spread) .none kVm48 dcm48 pmm48 anm48 cdm48 ctm48), slm48⟩)
    (cm48 : PySem.W.codeIn K cdm48 "Row._stretch_to_spread" = true)
    (km48 : PySem.W.keepIn K (.ref fm48) = true)
    (am53 : PySem.W.findIn K (.ref C) "_spread_marks" = some (some (.ref fm53)))
    (im53 : PySem.W.isFn K (.ref fm53) = true)
    (lm53 : K.lookup fm53 = some ⟨ocm53, odm53, .func (PySem.W.fnOf "_spread_marks" "Row._spread_marks" (defArgs s_Row__spread_marks) (defBody s_Row__spread_marks) (defScope s_Row__spread_marks) .none kVm53 dcm53 pmm53 anm53 cdm53 ctm53), slm53⟩)
    (cm53 : PySem.W.codeIn K cdm53 "Row._spread_marks" = true)
    (km53 : PySem.W.keepIn K (.ref fm53) = true)
    (am58 : PySem.W.findIn K (.ref C) "_lies_in" = some (some (.ref fm58)))
    (im58 : PySem.W.isFn K (.ref fm58) = true)
    (lm58 : K.lookup fm58 = some ⟨ocm58, odm58, .func (PySem.W.fnOf "_lies_in" "Row._lies_in" (defArgs s_Row__lies_in) (defBody s_Row__lies_in) (defScope s_Row__lies_in) .none kVm58 dcm58 pmm58 anm58 cdm58 ctm58), slm58⟩)
    (cm58 : PySem.W.codeIn K cdm58 "Row._lies_in" = true)
    (km58 : PySem.W.keepIn K (.ref fm58) = true)
    (gCF : PySem.W.nsIn K mainGlobals "Full" = some (some (.ref CF)))
    (xCF : PySem.W.excIn K CF [.type "ValueError", .type "Exception", .type "BaseException", .type "object"] "ValueError.__new__" = true)
    (kCF : PySem.W.keepIn K (.ref CF) = true)
    (bCF : PySem.W.subIn K (.ref CF) (.type "BaseException") = some true)
    (tCF : PySem.W.typeIn K (.ref CF) = some (.type "type"))
    (iCF : PySem.W.isClsIn K CF = true)
    (sCF : PySem.W.subIn K (.ref CF) (.ref CF) = some true)
    (a1 : PySem.W.nsIn K mainGlobals "check_within" = some (some (.ref f1)))
    (l1 : K.lookup f1 = some ⟨oc1, od1, .func (PySem.W.fnOf "check_within" "check_within" (defArgs s_check_within) (defBody s_check_within) (defScope s_check_within) .none kV1 dc1 pm1 an1 cd1 ct1), sl1⟩)
    (c1 : PySem.W.codeIn K cd1 "check_within" = true)
    (k1 : PySem.W.keepIn K (.ref f1) = true)
    (a2 : PySem.W.nsIn K mainGlobals "is_too_full" = some (some (.ref f2)))
    (l2 : K.lookup f2 = some ⟨oc2, od2, .func (PySem.W.fnOf "is_too_full" "is_too_full" (defArgs s_is_too_full) (defBody s_is_too_full) (defScope s_is_too_full) .none kV2 dc2 pm2 an2 cd2 ct2), sl2⟩)
    (c2 : PySem.W.codeIn K cd2 "is_too_full" = true)
    (k2 : PySem.W.keepIn K (.ref f2) = true)
    (a3 : PySem.W.nsIn K mainGlobals "stretch_at" = some (some (.ref f3)))
    (l3 : K.lookup f3 = some ⟨oc3, od3, .func (PySem.W.fnOf "stretch_at" "stretch_at" (defArgs s_stretch_at) (defBody s_stretch_at) (defScope s_stretch_at) .none kV3 dc3 pm3 an3 cd3 ct3), sl3⟩)
    (c3 : PySem.W.codeIn K cd3 "stretch_at" = true)
    (k3 : PySem.W.keepIn K (.ref f3) = true)
    (a4 : PySem.W.nsIn K mainGlobals "spread" = some (some (.ref f4)))
    (l4 : K.lookup f4 = some ⟨oc4, od4, .func (PySem.W.fnOf "spread" "spread" (defArgs s_spread) (defBody s_spread) (defScope s_spread) .none kV4 dc4 pm4 an4 cd4 ct4), sl4⟩)
    (c4 : PySem.W.codeIn K cd4 "spread" = true)
    (k4 : PySem.W.keepIn K (.ref f4) = true)
    (a5 : PySem.W.nsIn K mainGlobals "power" = some (some (.ref f5)))
    (l5 : K.lookup f5 = some ⟨oc5, od5, .func (PySem.W.fnOf "power" "power" (defArgs s_power) (defBody s_power) (defScope s_power) .none kV5 dc5 pm5 an5 cd5 ct5), sl5⟩)
    (c5 : PySem.W.codeIn K cd5 "power" = true)
    (k5 : PySem.W.keepIn K (.ref f5) = true)
    (g_MOST_LEVEL : PySem.W.nsIn K mainGlobals "MOST_LEVEL" = some (some (.int 60 t_MOST_LEVEL)))
    (g_MOST_SPREAD : PySem.W.nsIn K mainGlobals "MOST_SPREAD" = some (some (.int 1024 t_MOST_SPREAD)))
    (g_LEAST_WIDE : PySem.W.nsIn K mainGlobals "LEAST_WIDE" = some (some (.int 4 t_LEAST_WIDE)))
    (g_MOST_WIDE : PySem.W.nsIn K mainGlobals "MOST_WIDE" = some (some (.int 60 t_MOST_WIDE)))
    (g_MOST_THINGS : PySem.W.nsIn K mainGlobals "MOST_THINGS" = some (some (.int 200 t_MOST_THINGS)))
    (g_PAID_FOR_EACH_WIDE : PySem.W.nsIn K mainGlobals "PAID_FOR_EACH_WIDE" = some (some (.int 8 t_PAID_FOR_EACH_WIDE)))
    (z_type : PySem.W.nsIn K mainGlobals "type" = some none)
    (z_int : PySem.W.nsIn K mainGlobals "int" = some none)
    (z_len : PySem.W.nsIn K mainGlobals "len" = some none)
    (z_range : PySem.W.nsIn K mainGlobals "range" = some none)
    (z_min : PySem.W.nsIn K mainGlobals "min" = some none)
    (z_max : PySem.W.nsIn K mainGlobals "max" = some none)
    (z_list : PySem.W.nsIn K mainGlobals "list" = some none)
    (z_zip : PySem.W.nsIn K mainGlobals "zip" = some none)
    (am104 : PySem.W.findIn K (.ref C) "mark" = some (some (.ref fm104)))
    (im104 : PySem.W.isFn K (.ref fm104) = true)
    (lm104 : K.lookup fm104 = some ⟨ocm104, odm104, .func (PySem.W.fnOf "mark" "Row.mark" (defArgs s_Row_mark) (defBody s_Row_mark) (defScope s_Row_mark) .none kVm104 dcm104 pmm104 anm104 cdm104 ctm104), slm104⟩)
    (cm104 : PySem.W.codeIn K cdm104 "Row.mark" = true)
    (km104 : PySem.W.keepIn K (.ref fm104) = true)
    (am109 : PySem.W.findIn K (.ref C) "purse" = some (some (.ref fm109)))
    (im109 : PySem.W.isFn K (.ref fm109) = true)
    (lm109 : K.lookup fm109 = some ⟨ocm109, odm109, .func (PySem.W.fnOf "purse" "Row.purse" (defArgs s_Row_purse) (defBody s_Row_purse) (defScope s_Row_purse) .none kVm109 dcm109 pmm109 anm109 cdm109 ctm109), slm109⟩)
    (cm109 : PySem.W.codeIn K cdm109 "Row.purse" = true)
    (km109 : PySem.W.keepIn K (.ref fm109) = true)
    (a6 : PySem.W.nsIn K mainGlobals "_law_next" = some (some (.ref f6)))
    (l6 : K.lookup f6 = some ⟨oc6, od6, .func (PySem.W.fnOf "_law_next" "_law_next" (defArgs s__law_next) (defBody s__law_next) (defScope s__law_next) .none kV6 dc6 pm6 an6 cd6 ct6), sl6⟩)
    (c6 : PySem.W.codeIn K cd6 "_law_next" = true)
    (k6 : PySem.W.keepIn K (.ref f6) = true)
    (a7 : PySem.W.nsIn K mainGlobals "_law_too_many" = some (some (.ref f7)))
    (l7 : K.lookup f7 = some ⟨oc7, od7, .func (PySem.W.fnOf "_law_too_many" "_law_too_many" (defArgs s__law_too_many) (defBody s__law_too_many) (defScope s__law_too_many) .none kV7 dc7 pm7 an7 cd7 ct7), sl7⟩)
    (c7 : PySem.W.codeIn K cd7 "_law_too_many" = true)
    (k7 : PySem.W.keepIn K (.ref f7) = true)
    (a8 : PySem.W.nsIn K mainGlobals "_law_begun" = some (some (.ref f8)))
    (l8 : K.lookup f8 = some ⟨oc8, od8, .func (PySem.W.fnOf "_law_begun" "_law_begun" (defArgs s__law_begun) (defBody s__law_begun) (defScope s__law_begun) .none kV8 dc8 pm8 an8 cd8 ct8), sl8⟩)
    (c8 : PySem.W.codeIn K cd8 "_law_begun" = true)
    (k8 : PySem.W.keepIn K (.ref f8) = true)
    (a9 : PySem.W.nsIn K mainGlobals "_law_put" = some (some (.ref f9)))
    (l9 : K.lookup f9 = some ⟨oc9, od9, .func (PySem.W.fnOf "_law_put" "_law_put" (defArgs s__law_put) (defBody s__law_put) (defScope s__law_put) .none kV9 dc9 pm9 an9 cd9 ct9), sl9⟩)
    (c9 : PySem.W.codeIn K cd9 "_law_put" = true)
    (k9 : PySem.W.keepIn K (.ref f9) = true)
    (a10 : PySem.W.nsIn K mainGlobals "_law_taken" = some (some (.ref f10)))
    (l10 : K.lookup f10 = some ⟨oc10, od10, .func (PySem.W.fnOf "_law_taken" "_law_taken" (defArgs s__law_taken) (defBody s__law_taken) (defScope s__law_taken) .none kV10 dc10 pm10 an10 cd10 ct10), sl10⟩)
    (c10 : PySem.W.codeIn K cd10 "_law_taken" = true)
    (k10 : PySem.W.keepIn K (.ref f10) = true)
    (a11 : PySem.W.nsIn K mainGlobals "_law_place" = some (some (.ref f11)))
    (l11 : K.lookup f11 = some ⟨oc11, od11, .func (PySem.W.fnOf "_law_place" "_law_place" (defArgs s__law_place) (defBody s__law_place) (defScope s__law_place) .none kV11 dc11 pm11 an11 cd11 ct11), sl11⟩)
    (c11 : PySem.W.codeIn K cd11 "_law_place" = true)
    (k11 : PySem.W.keepIn K (.ref f11) = true)
    (a12 : PySem.W.nsIn K mainGlobals "_law_tried" = some (some (.ref f12)))
    (l12 : K.lookup f12 = some ⟨oc12, od12, .func (PySem.W.fnOf "_law_tried" "_law_tried" (defArgs s__law_tried) (defBody s__law_tried) (defScope s__law_tried) .none kV12 dc12 pm12 an12 cd12 ct12), sl12⟩)
    (c12 : PySem.W.codeIn K cd12 "_law_tried" = true)
    (k12 : PySem.W.keepIn K (.ref f12) = true)
    (a13 : PySem.W.nsIn K mainGlobals "_law_alike" = some (some (.ref f13)))
    (l13 : K.lookup f13 = some ⟨oc13, od13, .func (PySem.W.fnOf "_law_alike" "_law_alike" (defArgs s__law_alike) (defBody s__law_alike) (defScope s__law_alike) .none kV13 dc13 pm13 an13 cd13 ct13), sl13⟩)
    (c13 : PySem.W.codeIn K cd13 "_law_alike" = true)
    (k13 : PySem.W.keepIn K (.ref f13) = true)
    (a14 : PySem.W.nsIn K mainGlobals "law" = some (some (.ref f14)))
    (l14 : K.lookup f14 = some ⟨oc14, od14, .func (PySem.W.fnOf "law" "law" (defArgs s_law) (defBody s_law) (defScope s_law) .none kV14 dc14 pm14 an14 cd14 ct14), sl14⟩)
    (c14 : PySem.W.codeIn K cd14 "law" = true)
    (k14 : PySem.W.keepIn K (.ref f14) = true)
    (z_isinstance : PySem.W.nsIn K mainGlobals "isinstance" = some none)
    (z_bool : PySem.W.nsIn K mainGlobals "bool" = some none)
    (z_enumerate : PySem.W.nsIn K mainGlobals "enumerate" = some none)
    : ∃ fd : FuncData, (∀ (s : Shared) (v : Value), BindsTo s fd ⟨[v], []⟩ [("_law_script", v)]) ∧ ∀ base : Heap, K.In base → base.Ns mainGlobals mg → FnOk l.prog w K mg base CX0 6 fa fd ["_law_script"] (spLaw K) := by
  have e := hfa.symm.trans (PySem.W.mg_of X G a14)
  cases e
  have T : Txt K mg C CF := {
    cl := ⟨pg, hd, po, sa⟩,
    nW := nW,
    nO := nO,
    nM := nM,
    nG := nG,
    nP := nP,
    gRow := PySem.W.mg_of X G aC,
    mkRow := ⟨_, _, ⟨mkC, aI, iI, kpC⟩, fun_mk (st := s_Row___init__) lI cI kI, (fun_mk (st := s_Row___init__) lI cI kI).binds (ps := ["self", "wide"]) fun _ _ _ _ _ _ us hl => (match us, hl with | [_, _], _ => rfl)⟩,
    m_put := mdd_of aP iP lP cP kP lT (fun _ _ _ _ _ _ _ us its h1 h2 => (match us, h1, its, h2 with | [_], _, [_], _ => ⟨_, rfl, rfl⟩)) (fun _ _ _ _ _ _ _ us its h1 h2 => (match us, h1, its, h2 with | [_, _], _, [_], _ => ⟨_, rfl, rfl⟩)),
    m_take := ⟨_, _, _, fun_mk (st := s_Row_take) lm23 cm23 km23, ⟨am23, im23, km23⟩, (fun_mk (st := s_Row_take) lm23 cm23 km23).binds (ps := ["self", "one"]) fun _ _ _ _ _ _ us hl => (match us, hl with | [_, _], _ => rfl), .nil⟩,
    m_things := ⟨_, _, _, fun_mk (st := s_Row_things) lm28 cm28 km28, ⟨am28, im28, km28⟩, (fun_mk (st := s_Row_things) lm28 cm28 km28).binds (ps := ["self"]) fun _ _ _ _ _ _ us hl => (match us, hl with | [_], _ => rfl), .nil⟩,
    m__check_thing := ⟨_, _, _, fun_mk (st := s_Row__check_thing) lm33 cm33 km33, ⟨am33, im33, km33⟩, (fun_mk (st := s_Row__check_thing) lm33 cm33 km33).binds (ps := ["self", "one"]) fun _ _ _ _ _ _ us hl => (match us, hl with | [_, _], _ => rfl), .nil⟩,
    m__place_behind := ⟨_, _, _, fun_mk (st := s_Row__place_behind) lm38 cm38 km38, ⟨am38, im38, km38⟩, (fun_mk (st := s_Row__place_behind) lm38 cm38 km38).binds (ps := ["self", "one"]) fun _ _ _ _ _ _ us hl => (match us, hl with | [_, _], _ => rfl), .nil⟩,
    m__marks_around := ⟨_, _, _, fun_mk (st := s_Row__marks_around) lm43 cm43 km43, ⟨am43, im43, km43⟩, (fun_mk (st := s_Row__marks_around) lm43 cm43 km43).binds (ps := ["self", "place"]) fun _ _ _ _ _ _ us hl => (match us, hl with | [_, _], _ => rfl), .nil⟩,
    m__stretch_to_spread := ⟨_, _, _, fun_mk (st := s_Row__stretch_to_spread) lm48 cm48 km48, ⟨am48, im48, km48⟩, (fun_mk (st := s_Row__stretch_to_spread) lm48 cm48 km48).binds (ps := ["self", "mark"]) fun _ _ _ _ _ _ us hl => (match us, hl with | [_, _], _ => rfl), .nil⟩,
    m__spread_marks := ⟨_, _, _, fun_mk (st := s_Row__spread_marks) lm53 cm53 km53, ⟨am53, im53, km53⟩, (fun_mk (st := s_Row__spread_marks) lm53 cm53 km53).binds (ps := ["self", "stretch", "order", "number"]) fun _ _ _ _ _ _ us hl => (match us, hl with | [_, _, _, _], _ => rfl), .nil⟩,
    m__lies_in := ⟨_, _, _, fun_mk (st := s_Row__lies_in) lm58 cm58 km58, ⟨am58, im58, km58⟩, (fun_mk (st := s_Row__lies_in) lm58 cm58 km58).binds (ps := ["self", "thing", "level", "first"]) fun _ _ _ _ _ _ us hl => (match us, hl with | [_, _, _, _], _ => rfl), .nil⟩,
    full := ⟨PySem.W.mg_of X G gCF, xCF, kCF, bCF, tCF, iCF, sCF⟩,
    d_check_within := ⟨_, _, fun_mk (st := s_check_within) l1 c1 k1, PySem.W.mg_of X G a1, (fun_mk (st := s_check_within) l1 c1 k1).binds (ps := ["value", "least", "most"]) fun _ _ _ _ _ _ us hl => match us, hl with | [_, _, _], _ => rfl⟩,
    d_is_too_full := ⟨_, _, fun_mk (st := s_is_too_full) l2 c2 k2, PySem.W.mg_of X G a2, (fun_mk (st := s_is_too_full) l2 c2 k2).binds (ps := ["level", "many"]) fun _ _ _ _ _ _ us hl => match us, hl with | [_, _], _ => rfl⟩,
    d_stretch_at := ⟨_, _, fun_mk (st := s_stretch_at) l3 c3 k3, PySem.W.mg_of X G a3, (fun_mk (st := s_stretch_at) l3 c3 k3).binds (ps := ["level", "mark"]) fun _ _ _ _ _ _ us hl => match us, hl with | [_, _], _ => rfl⟩,
    d_spread := ⟨_, _, fun_mk (st := s_spread) l4 c4 k4, PySem.W.mg_of X G a4, (fun_mk (st := s_spread) l4 c4 k4).binds (ps := ["level", "start", "many"]) fun _ _ _ _ _ _ us hl => match us, hl with | [_, _, _], _ => rfl⟩,
    d_power := ⟨_, _, fun_mk (st := s_power) l5 c5 k5, PySem.W.mg_of X G a5, (fun_mk (st := s_power) l5 c5 k5).binds (ps := ["base", "times"]) fun _ _ _ _ _ _ us hl => match us, hl with | [_, _], _ => rfl⟩,
    g_MOST_LEVEL := ⟨_, PySem.W.mg_of X G g_MOST_LEVEL, ⟨_, rfl⟩⟩,
    g_MOST_SPREAD := ⟨_, PySem.W.mg_of X G g_MOST_SPREAD, ⟨_, rfl⟩⟩,
    g_LEAST_WIDE := ⟨_, PySem.W.mg_of X G g_LEAST_WIDE, ⟨_, rfl⟩⟩,
    g_MOST_WIDE := ⟨_, PySem.W.mg_of X G g_MOST_WIDE, ⟨_, rfl⟩⟩,
    g_MOST_THINGS := ⟨_, PySem.W.mg_of X G g_MOST_THINGS, ⟨_, rfl⟩⟩,
    g_PAID_FOR_EACH_WIDE := ⟨_, PySem.W.mg_of X G g_PAID_FOR_EACH_WIDE, ⟨_, rfl⟩⟩,
    n_type := PySem.W.mg_none_of X G z_type,
    n_int := PySem.W.mg_none_of X G z_int,
    n_len := PySem.W.mg_none_of X G z_len,
    n_range := PySem.W.mg_none_of X G z_range,
    n_min := PySem.W.mg_none_of X G z_min,
    n_max := PySem.W.mg_none_of X G z_max,
    n_list := PySem.W.mg_none_of X G z_list,
    n_zip := PySem.W.mg_none_of X G z_zip,
    m_mark := ⟨_, _, _, fun_mk (st := s_Row_mark) lm104 cm104 km104, ⟨am104, im104, km104⟩, (fun_mk (st := s_Row_mark) lm104 cm104 km104).binds (ps := ["self", "one"]) fun _ _ _ _ _ _ us hl => (match us, hl with | [_, _], _ => rfl), .nil⟩,
    m_purse := ⟨_, _, _, fun_mk (st := s_Row_purse) lm109 cm109 km109, ⟨am109, im109, km109⟩, (fun_mk (st := s_Row_purse) lm109 cm109 km109).binds (ps := ["self"]) fun _ _ _ _ _ _ us hl => (match us, hl with | [_], _ => rfl), .nil⟩,
    d__law_next := ⟨_, _, fun_mk (st := s__law_next) l6 c6 k6, PySem.W.mg_of X G a6, (fun_mk (st := s__law_next) l6 c6 k6).binds (ps := ["_law_state"]) fun _ _ _ _ _ _ us hl => match us, hl with | [_], _ => rfl⟩,
    d__law_too_many := ⟨_, _, fun_mk (st := s__law_too_many) l7 c7 k7, PySem.W.mg_of X G a7, (fun_mk (st := s__law_too_many) l7 c7 k7).binds (ps := ["_law_level", "_law_many"]) fun _ _ _ _ _ _ us hl => match us, hl with | [_, _], _ => rfl⟩,
    d__law_begun := ⟨_, _, fun_mk (st := s__law_begun) l8 c8 k8, PySem.W.mg_of X G a8, (fun_mk (st := s__law_begun) l8 c8 k8).binds (ps := ["_law_wide"]) fun _ _ _ _ _ _ us hl => match us, hl with | [_], _ => rfl⟩,
    d__law_put := ⟨_, _, fun_mk (st := s__law_put) l9 c9 k9, PySem.W.mg_of X G a9, (fun_mk (st := s__law_put) l9 c9 k9).binds (ps := ["_law_m", "_law_one"]) fun _ _ _ _ _ _ us hl => match us, hl with | [_, _], _ => rfl⟩,
    d__law_taken := ⟨_, _, fun_mk (st := s__law_taken) l10 c10 k10, PySem.W.mg_of X G a10, (fun_mk (st := s__law_taken) l10 c10 k10).binds (ps := ["_law_m", "_law_one"]) fun _ _ _ _ _ _ us hl => match us, hl with | [_, _], _ => rfl⟩,
    d__law_place := ⟨_, _, fun_mk (st := s__law_place) l11 c11 k11, PySem.W.mg_of X G a11, (fun_mk (st := s__law_place) l11 c11 k11).binds (ps := ["_law_state", "_law_m"]) fun _ _ _ _ _ _ us hl => match us, hl with | [_, _], _ => rfl⟩,
    d__law_tried := ⟨_, _, fun_mk (st := s__law_tried) l12 c12 k12, PySem.W.mg_of X G a12, (fun_mk (st := s__law_tried) l12 c12 k12).binds (ps := ["_law_row", "_law_one"]) fun _ _ _ _ _ _ us hl => match us, hl with | [_, _], _ => rfl⟩,
    d__law_alike := ⟨_, _, fun_mk (st := s__law_alike) l13 c13 k13, PySem.W.mg_of X G a13, (fun_mk (st := s__law_alike) l13 c13 k13).binds (ps := ["_law_row", "_law_m"]) fun _ _ _ _ _ _ us hl => match us, hl with | [_, _], _ => rfl⟩,
    d_law := ⟨_, _, fun_mk (st := s_law) l14 c14 k14, PySem.W.mg_of X G a14, (fun_mk (st := s_law) l14 c14 k14).binds (ps := ["_law_script"]) fun _ _ _ _ _ _ us hl => match us, hl with | [_], _ => rfl⟩,
    n_isinstance := PySem.W.mg_none_of X G z_isinstance,
    n_bool := PySem.W.mg_none_of X G z_bool,
    n_enumerate := PySem.W.mg_none_of X G z_enumerate }
  exact ⟨PySem.W.fnOf "law" "law" (defArgs s_law) (defBody s_law) (defScope s_law) .none kV14 dc14 pm14 an14 cd14 ct14, fun s v => .of_eq rfl, fun base _ _ => ok_all T (fun_mk (st := s_law) l14 c14 k14)⟩
theorem walk {l : PySem.W.OpenLaw} {q : Program} {loose : List Str} {XP : (Str → Option Value) → Heap → Prop} {YP : World → Heap → Prop} {d : DefRec} {K : Params → PySem.W.Frag} (hn : l.most = some 63) (hdf : d.params.defaults = [])
    (hY : ∀ (w : World) (h : Heap), YP w h → (K w.params).In h)
    (F : ∀ (w : World) (mg : Str → Option Value) (fa : Addr) (h : Heap), (K w.params).In h → h.Ns mainGlobals mg → mg d.name = some (.ref fa) →
      ∃ fd : FuncData, (∀ (s : Shared) (u : Value), BindsTo s fd ⟨[u], []⟩ [("_law_script", u)]) ∧ ∀ base : Heap, (K w.params).In base → base.Ns mainGlobals mg → FnOk l.prog w (K w.params) mg base CX0 6 fa fd ["_law_script"] (spLaw (K w.params))) :
    PySem.W.WalkO q loose XP YP l.row.toRowW d [] (fun f vs => PySem.call f vs) :=
  L2.walk_of (n := 63) (k := 6) (x := "_law_script") (CX := fun _ => CX0) (sp := fun w => spLaw (K w.params)) hn (by decide) hdf ⟨rfl, by decide, by decide⟩ hY F (fun _ _ a ns hl hO hS => ⟨a, ns, rfl, ScrF.of hO hS, hl, fun _ => rfl⟩) fun _ _ _ _ _ z => z
end Seat
open PySem PySem.W PyProof.Rows in
set_option maxRecDepth 100000 in
set_option maxHeartbeats 0 in
theorem PySem.Challenge.cw_seatmarks_k07_whole_row_by_the_rule_holds : PySem.Challenge.rw_seatmarks_k07_whole_row_by_the_rule.Holds := by
  w_on; o_law; k_head; (case hw => w_witness2)
  k_fill
  refine Seat.walk (l := PySem.Challenge.rw_seatmarks_k07_whole_row_by_the_rule) rfl rfl (fun w h Y => PySem.W.kIn_of Y) ?F
  case F =>
    intro w mg fa h KX G hmg
    refine' Seat.all_mk KX G hmg ?aC ?pg ?hd ?po ?sa ?nW ?nO ?nM ?nG ?nP ?aI ?iI ?lI ?cI ?kI ?mkC ?kpC ?aP ?iP ?lP ?cP ?kP ?lT ?am23 ?im23 ?lm23 ?cm23 ?km23 ?am28 ?im28 ?lm28 ?cm28 ?km28 ?am33 ?im33 ?lm33 ?cm33 ?km33 ?am38 ?im38 ?lm38 ?cm38 ?km38 ?am43 ?im43 ?lm43 ?cm43 ?km43 ?am48 ?im48 ?lm48 ?cm48 ?km48 ?am53 ?im53 ?lm53 ?cm53 ?km53 ?am58 ?im58 ?lm58 ?cm58 ?km58 ?gCF ?xCF ?kCF ?bCF ?tCF ?iCF ?sCF ?a1 ?l1 ?c1 ?k1 ?a2 ?l2 ?c2 ?k2 ?a3 ?l3 ?c3 ?k3 ?a4 ?l4 ?c4 ?k4 ?a5 ?l5 ?c5 ?k5 ?g_MOST_LEVEL ?g_MOST_SPREAD ?g_LEAST_WIDE ?g_MOST_WIDE ?g_MOST_THINGS ?g_PAID_FOR_EACH_WIDE ?z_type ?z_int ?z_len ?z_range ?z_min ?z_max ?z_list ?z_zip ?am104 ?im104 ?lm104 ?cm104 ?km104 ?am109 ?im109 ?lm109 ?cm109 ?km109 ?a6 ?l6 ?c6 ?k6 ?a7 ?l7 ?c7 ?k7 ?a8 ?l8 ?c8 ?k8 ?a9 ?l9 ?c9 ?k9 ?a10 ?l10 ?c10 ?k10 ?a11 ?l11 ?c11 ?k11 ?a12 ?l12 ?c12 ?k12 ?a13 ?l13 ?c13 ?k13 ?a14 ?l14 ?c14 ?k14 ?z_isinstance ?z_bool ?z_enumerate
    (case aC => k_is)
    (case pg => k_is)
    (case hd => k_is)
    (case po => k_is)
    (case sa => k_is)
    (case nW => k_is)
    (case nO => k_is)
    (case nM => k_is)
    (case nG => k_is)
    (case nP => k_is)
    (case aI => k_is)
    (case iI => k_is)
    (case lI => k_is)
    (case cI => k_is)
    (case kI => k_is)
    (case mkC => k_is)
    (case kpC => k_is)
    (case aP => k_is)
    (case iP => k_is)
    (case lP => k_is)
    (case cP => k_is)
    (case kP => k_is)
    (case lT => k_is)
    (case am23 => k_is)
    (case im23 => k_is)
    (case lm23 => k_is)
    (case cm23 => k_is)
    (case km23 => k_is)
    (case am28 => k_is)
    (case im28 => k_is)
    (case lm28 => k_is)
    (case cm28 => k_is)
    (case km28 => k_is)
    (case am33 => k_is)
    (case im33 => k_is)
    (case lm33 => k_is)
    (case cm33 => k_is)
    (case km33 => k_is)
    (case am38 => k_is)
    (case im38 => k_is)
    (case lm38 => k_is)
    (case cm38 => k_is)
    (case km38 => k_is)
    (case am43 => k_is)
    (case im43 => k_is)
    (case lm43 => k_is)
    (case cm43 => k_is)
    (case km43 => k_is)
    (case am48 => k_is)
    (case im48 => k_is)
    (case lm48 => k_is)
    (case cm48 => k_is)
    (case km48 => k_is)
    (case am53 => k_is)
    (case im53 => k_is)
    (case lm53 => k_is)
    (case cm53 => k_is)
    (case km53 => k_is)
    (case am58 => k_is)
    (case im58 => k_is)
    (case lm58 => k_is)
    (case cm58 => k_is)
    (case km58 => k_is)
    (case gCF => k_is)
    (case xCF => k_exc)
    (case kCF => k_is)
    (case bCF => k_is)
    (case tCF => k_is)
    (case iCF => k_is)
    (case sCF => first | rfl | k_is)
    (case a1 => k_is)
    (case l1 => k_is)
    (case c1 => k_is)
    (case k1 => k_is)
    (case a2 => k_is)
    (case l2 => k_is)
    (case c2 => k_is)
    (case k2 => k_is)
    (case a3 => k_is)
    (case l3 => k_is)
    (case c3 => k_is)
    (case k3 => k_is)
    (case a4 => k_is)
    (case l4 => k_is)
    (case c4 => k_is)
    (case k4 => k_is)
    (case a5 => k_is)
    (case l5 => k_is)
    (case c5 => k_is)
    (case k5 => k_is)
    (case g_MOST_LEVEL => k_is)
    (case g_MOST_SPREAD => k_is)
    (case g_LEAST_WIDE => k_is)
    (case g_MOST_WIDE => k_is)
    (case g_MOST_THINGS => k_is)
    (case g_PAID_FOR_EACH_WIDE => k_is)
    (case z_type => k_is)
    (case z_int => k_is)
    (case z_len => k_is)
    (case z_range => k_is)
    (case z_min => k_is)
    (case z_max => k_is)
    (case z_list => k_is)
    (case z_zip => k_is)
    (case am104 => k_is)
    (case im104 => k_is)
    (case lm104 => k_is)
    (case cm104 => k_is)
    (case km104 => k_is)
    (case am109 => k_is)
    (case im109 => k_is)
    (case lm109 => k_is)
    (case cm109 => k_is)
    (case km109 => k_is)
    (case a6 => k_is)
    (case l6 => k_is)
    (case c6 => k_is)
    (case k6 => k_is)
    (case a7 => k_is)
    (case l7 => k_is)
    (case c7 => k_is)
    (case k7 => k_is)
    (case a8 => k_is)
    (case l8 => k_is)
    (case c8 => k_is)
    (case k8 => k_is)
    (case a9 => k_is)
    (case l9 => k_is)
    (case c9 => k_is)
    (case k9 => k_is)
    (case a10 => k_is)
    (case l10 => k_is)
    (case c10 => k_is)
    (case k10 => k_is)
    (case a11 => k_is)
    (case l11 => k_is)
    (case c11 => k_is)
    (case k11 => k_is)
    (case a12 => k_is)
    (case l12 => k_is)
    (case c12 => k_is)
    (case k12 => k_is)
    (case a13 => k_is)
    (case l13 => k_is)
    (case c13 => k_is)
    (case k13 => k_is)
    (case a14 => k_is)
    (case l14 => k_is)
    (case c14 => k_is)
    (case k14 => k_is)
    (case z_isinstance => k_is)
    (case z_bool => k_is)
    (case z_enumerate => k_is)
