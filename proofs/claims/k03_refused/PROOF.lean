import PyProof.Rows.All
import Wide.All
import OpenK.AllK
import Wide.FinOn
import HandS.ForMost
import HandS.Wide
import HandS.IsInst
import HandS.ExcIs
import HandS.SetFor
import HandS.More
import HandS.Codes
import HandS.ForExc
import HandS.Zip
import HandS.Style
import HandS.Walk
import HandS.Defaults
import HandS.CallSlots
import HandS.ListItems
import HandS.Lambda
import HandS.EndTab
import KE.KDictZip
import PySem.Challenge.RW_seatmarks_k03_refused
set_option Elab.async false
set_option linter.all false
set_option maxRecDepth 100000
set_option maxHeartbeats 4000000
namespace Seat
open PySem L2
open C8 (Cal Met Mak pe_c pe_mk pe_mt pe_mt0 pe_gc pss_cut)

def top (i : Nat) : Stmt := PySem.Challenge.pw_seatmarks_k03_refused.main.body.getD i (.Pass ⟨0, 0, 0, 0⟩)
abbrev s_check_within : Stmt := top 7
theorem sc_check_within : FnScope ["value", "least", "most"] ["value", "least", "most"] (defScope s_check_within) := ⟨rfl, rfl, rfl, by decide +kernel, rfl, by decide +kernel, by decide +kernel⟩
abbrev s_is_too_full : Stmt := top 11
theorem sc_is_too_full : FnScope ["level", "many"] ["level", "many"] (defScope s_is_too_full) := ⟨rfl, rfl, rfl, by decide +kernel, rfl, by decide +kernel, by decide +kernel⟩
abbrev s_stretch_at : Stmt := top 12
theorem sc_stretch_at : FnScope ["level", "mark", "size"] ["level", "mark"] (defScope s_stretch_at) := ⟨rfl, rfl, rfl, by decide +kernel, rfl, by decide +kernel, by decide +kernel⟩
abbrev s_spread : Stmt := top 13
theorem sc_spread : FnScope ["level", "start", "many", "size", "place"] ["level", "start", "many"] (defScope s_spread) := ⟨rfl, rfl, rfl, by decide +kernel, rfl, by decide +kernel, by decide +kernel⟩
abbrev s_power : Stmt := top 14
theorem sc_power : FnScope ["base", "times", "found", "_"] ["base", "times"] (defScope s_power) := ⟨rfl, rfl, rfl, by decide +kernel, rfl, by decide +kernel, by decide +kernel⟩
abbrev s_Row___init__ : Stmt := inClass (top 20) 0
theorem sc_Row___init__ : FnScope ["self", "wide"] ["self", "wide"] (defScope s_Row___init__) := ⟨rfl, rfl, rfl, by decide +kernel, rfl, by decide +kernel, by decide +kernel⟩
abbrev s_Row_put : Stmt := inClass (top 20) 1
theorem sc_Row_put : FnScope ["self", "one", "place", "number", "order", "ahead", "behind", "stretch", "marked", "thing", "mark", "changed"] ["self", "one"] (defScope s_Row_put) := ⟨rfl, rfl, rfl, by decide +kernel, rfl, by decide +kernel, by decide +kernel⟩
abbrev s_Row_take : Stmt := inClass (top 20) 2
theorem sc_Row_take : FnScope ["self", "one"] ["self", "one"] (defScope s_Row_take) := ⟨rfl, rfl, rfl, by decide +kernel, rfl, by decide +kernel, by decide +kernel⟩
abbrev s_Row_things : Stmt := inClass (top 20) 3
theorem sc_Row_things : FnScope ["self"] ["self"] (defScope s_Row_things) := ⟨rfl, rfl, rfl, by decide +kernel, rfl, by decide +kernel, by decide +kernel⟩
abbrev s_Row_mark : Stmt := inClass (top 20) 4
theorem sc_Row_mark : FnScope ["self", "one"] ["self", "one"] (defScope s_Row_mark) := ⟨rfl, rfl, rfl, by decide +kernel, rfl, by decide +kernel, by decide +kernel⟩
abbrev s_Row_is_ahead : Stmt := inClass (top 20) 5
theorem sc_Row_is_ahead : FnScope ["self", "one", "other"] ["self", "one", "other"] (defScope s_Row_is_ahead) := ⟨rfl, rfl, rfl, by decide +kernel, rfl, by decide +kernel, by decide +kernel⟩
abbrev s_Row_purse : Stmt := inClass (top 20) 6
theorem sc_Row_purse : FnScope ["self"] ["self"] (defScope s_Row_purse) := ⟨rfl, rfl, rfl, by decide +kernel, rfl, by decide +kernel, by decide +kernel⟩
abbrev s_Row__check_thing : Stmt := inClass (top 20) 7
theorem sc_Row__check_thing : FnScope ["self", "one"] ["self", "one"] (defScope s_Row__check_thing) := ⟨rfl, rfl, rfl, by decide +kernel, rfl, by decide +kernel, by decide +kernel⟩
abbrev s_Row__place_behind : Stmt := inClass (top 20) 8
theorem sc_Row__place_behind : FnScope ["self", "one"] ["self", "one"] (defScope s_Row__place_behind) := ⟨rfl, rfl, rfl, by decide +kernel, rfl, by decide +kernel, by decide +kernel⟩
abbrev s_Row__marks_around : Stmt := inClass (top 20) 9
theorem sc_Row__marks_around : FnScope ["self", "place", "ahead", "behind"] ["self", "place"] (defScope s_Row__marks_around) := ⟨rfl, rfl, rfl, by decide +kernel, rfl, by decide +kernel, by decide +kernel⟩
abbrev s_Row__stretch_to_spread : Stmt := inClass (top 20) 10
theorem sc_Row__stretch_to_spread : FnScope ["self", "mark", "level", "first", "thing", "many"] ["self", "mark"] (defScope s_Row__stretch_to_spread) := ⟨rfl, rfl, rfl, by decide +kernel, rfl, by decide +kernel, by decide +kernel⟩
abbrev s_Row__spread_marks : Stmt := inClass (top 20) 11
theorem sc_Row__spread_marks : FnScope ["self", "stretch", "order", "number", "level", "first", "thing", "inside"] ["self", "stretch", "order", "number"] (defScope s_Row__spread_marks) := ⟨rfl, rfl, rfl, by decide +kernel, rfl, by decide +kernel, by decide +kernel⟩
abbrev s_Row__lies_in : Stmt := inClass (top 20) 12
theorem sc_Row__lies_in : FnScope ["self", "thing", "level", "first", "mark"] ["self", "thing", "level", "first"] (defScope s_Row__lies_in) := ⟨rfl, rfl, rfl, by decide +kernel, rfl, by decide +kernel, by decide +kernel⟩
abbrev s__law_next : Stmt := top 22
theorem sc__law_next : FnScope ["_law_state", "_law_k", "_law_cells", "_law_base"] ["_law_state"] (defScope s__law_next) := ⟨rfl, rfl, rfl, by decide +kernel, rfl, by decide +kernel, by decide +kernel⟩
abbrev s__law_too_many : Stmt := top 23
theorem sc__law_too_many : FnScope ["_law_level", "_law_many", "_law_room", "_law_turn"] ["_law_level", "_law_many"] (defScope s__law_too_many) := ⟨rfl, rfl, rfl, by decide +kernel, rfl, by decide +kernel, by decide +kernel⟩
abbrev s__law_place : Stmt := top 24
theorem sc__law_place : FnScope ["_law_state", "_law_m", "_law_n", "_law_line"] ["_law_state", "_law_m"] (defScope s__law_place) := ⟨rfl, rfl, rfl, by decide +kernel, rfl, by decide +kernel, by decide +kernel⟩
abbrev s__law_said : Stmt := top 25
theorem sc__law_said : FnScope ["_law_worker", "_law_caught", "e", "_law_some"] ["_law_worker"] (defScope s__law_said) := ⟨rfl, rfl, rfl, by decide +kernel, rfl, by decide +kernel, by decide +kernel⟩
abbrev s__law_odd : Stmt := top 26
theorem sc__law_odd : FnScope ["_law_n"] ["_law_n"] (defScope s__law_odd) := ⟨rfl, rfl, rfl, by decide +kernel, rfl, by decide +kernel, by decide +kernel⟩
abbrev s__law_numbers_refused : Stmt := top 27
theorem sc__law_numbers_refused : FnScope ["_law_n", "_law_odd_here", "_law_wide", "_law_level", "_law_mark", "_law_many"] ["_law_n"] (defScope s__law_numbers_refused) := ⟨rfl, rfl, rfl, by decide +kernel, rfl, by decide +kernel, by decide +kernel⟩
abbrev s__law_things_refused : Stmt := top 28
theorem sc__law_things_refused : FnScope ["_law_row", "_law_line", "_law_odd_here", "_law_one", "_law_first", "_law_second"] ["_law_row", "_law_line", "_law_odd_here"] (defScope s__law_things_refused) := ⟨rfl, rfl, rfl, by decide +kernel, rfl, by decide +kernel, by decide +kernel⟩
abbrev s_law : Stmt := top 29
theorem sc_law : FnScope ["_law_script", "_law_state", "_law_n", "_law_row", "_law_m", "_law_cell", "_law_one", "_law_gone", "_law_line", "_law_kept", "_law_odd_here", "_law_last"] ["_law_script"] (defScope s_law) := ⟨rfl, rfl, rfl, by decide +kernel, rfl, by decide +kernel, by decide +kernel⟩
/-! ### how a def of the top, a method, a constant stand -/
structure Df (K : PySem.W.Frag) (mg : Str → Option Value) (x : Str) (st : Stmt) (ps : List Str) : Prop where
  ex : ∃ (f : Addr) (fd : FuncData), Fun K x x st f fd ∧ mg x = some (.ref f) ∧ Binds K fd ps []
structure Md (K : PySem.W.Frag) (C : Addr) (m qual : Str) (st : Stmt) (ps : List Str) (dvs : List V) : Prop where
  ex : ∃ (f : Addr) (fd : FuncData) (ds : List Value), Fun K m qual st f fd ∧ Meth K C m f ∧ Binds K fd ps ds ∧ Vals dvs ds
def Kn (mg : Str → Option Value) (x : Str) (v : V) : Prop := ∃ u, mg x = some u ∧ RelV v u
/-! ### steps of a reading -/
theorem iteTd {c A B : Prop} [Decidable c] (hc : c) (h : A) : if decide c = true then A else B := by
  rw [decide_eq_true hc]; exact iteT h
theorem iteFd {c A B : Prop} [Decidable c] (hc : ¬ c) (h : B) : if decide c = true then A else B := by
  rw [decide_eq_false hc]; exact iteF h
theorem iteNT {c A B : Prop} [Decidable c] (hc : ¬ c) (h : A) : if (!decide c) = true then A else B := by
  rw [decide_eq_false hc]; exact iteT h
theorem ite2d {c A B : Prop} [Decidable c] (h1 : c → A) (h2 : ¬ c → B) : if decide c = true then A else B := by
  by_cases h : c
  · exact iteTd h (h1 h)
  · exact iteFd h (h2 h)
theorem iteOf {b : Bool} {A B : Prop} (h1 : b = true → A) (h2 : b = false → B) : if b = true then A else B := by
  cases b with
  | true => exact iteT (h1 rfl)
  | false => exact iteF (h2 rfl)
theorem iteEqT {b : Bool} {A B : Prop} (hb : b = true) (h : A) : if b = true then A else B := by rw [hb]; exact iteT h
theorem iteEqF {b : Bool} {A B : Prop} (hb : b = false) (h : B) : if b = true then A else B := by rw [hb]; exact iteF h
/-- a new object leaves all as it was -/
theorem same_new {H : Hp} {p : Addr} {o : HO} (h : H p = none) : Same H (upd H p o) := fun b x e => by
  rw [upd_ne (ne_of_none e h)]
  exact e
theorem small {n : Nat} (h : n ≤ 100000) : n ≤ sizeLine := Nat.le_trans h (by decide)
theorem smallL {n : Nat} (h : n ≤ 100000) : n < sizeLine := Nat.lt_of_le_of_lt h (by decide)
/-- a class with its __init__ -/
structure MkI (K : PySem.W.Frag) (C : Addr) (qual : Str) (st : Stmt) (ps : List Str) : Prop where
  ex : ∃ (f : Addr) (fd : FuncData), Mk K C f ∧ Fun K "__init__" qual st f fd ∧ Binds K fd ps []
/-- a method with one default, None, for its second parameter -/
structure MdD (K : PySem.W.Frag) (C : Addr) (m qual : Str) (st : Stmt) : Prop where
  ex : ∃ (f : Addr) (fd : FuncData), FunD K m qual (defArgs st) (defBody st) (defScope st) [.non] [] f fd ∧ Meth K C m f ∧ Binds K fd ["self", "one"] [] ∧ ∃ ds, Vals [.non] ds ∧ Binds K fd ["self", "one"] ds
/-- an error class of the program over ValueError -/
structure ExcC (K : PySem.W.Frag) (mg : Str → Option Value) (x : Str) (C : Addr) : Prop where
  g : mg x = some (.ref C)
  ex : PySem.W.excIn K C [.type "ValueError", .type "Exception", .type "BaseException", .type "object"] "ValueError.__new__" = true
  kp : PySem.W.keepIn K (.ref C) = true
  sb : PySem.W.subIn K (.ref C) (.type "BaseException") = some true
  ty : PySem.W.typeIn K (.ref C) = some (.type "type")
  ic : PySem.W.isClsIn K C = true
  ss : PySem.W.subIn K (.ref C) (.ref C) = some true
theorem exm_sub {K : PySem.W.Frag} {C S : Addr} {b : Bool} (h1 : PySem.W.subIn K (.ref S) (.type "BaseException") = some true) (h2 : PySem.W.isClsIn K S = true) (h3 : PySem.W.typeIn K (.ref S) = some (.type "type")) (h4 : PySem.W.subIn K (.ref C) (.ref S) = some b) : PySem.W.exmOne K (.ref C) (.ref S) = some b := by
  have e1 : (PySem.W.subIn K (.ref S) (.type "BaseException") == some true) = true := by rw [h1]; rfl
  have e2 : ((PySem.W.clsIn K S).isSome && PySem.W.typeIn K (.ref S) == some (.type "type")) = true := by
    have h5 : (PySem.W.clsIn K S).isSome = true := h2
    rw [h5, h3]; rfl
  show (if _ then (if _ then _ else none) else none) = some b
  rw [if_pos e1, if_pos e2]
  exact h4
def spreadL (l : Nat) (s : Int) (m : Nat) : List Int := (List.range m).map fun (i : Nat) => s + 2 ^ l * (i : Int) / (m : Int)
theorem two_pow_pos (l : Nat) : (0 : Int) < 2 ^ l := Int.pow_pos (by decide)
theorem two_pow_lt {l : Nat} (h : l ≤ 60) : ((2 : Int) ^ l).natAbs < 2 ^ 61 := by
  rw [Int.natAbs_pow]
  exact Nat.pow_lt_pow_right (by decide) (by omega)
theorem two_pow_le {l : Nat} (h : l ≤ 60) : ((2 : Int) ^ l) ≤ 2 ^ 60 := by
  have := two_pow_lt h
  have h2 : (2 : Nat) ^ l ≤ 2 ^ 60 := Nat.pow_le_pow_right (by decide) h
  have h3 : ((2 : Int) ^ l) = ((2 ^ l : Nat) : Int) := by push_cast; rfl
  rw [h3]
  exact_mod_cast h2
theorem nil_of {σ : L2.St} {H : Hp} {Q : List V → Hp → Prop} (h : Q [] H) : tNil σ H Q := h
theorem mdd_of {K : PySem.W.Frag} {C f Tq : Addr} {m qual : Str} {st : Stmt} {od an odq : Option Addr} {sl slq : Array (Option Value)} {oc kV dc pm cd ct otq : Value} {ntq : Nat} (a : PySem.W.findIn K (.ref C) m = some (some (.ref f))) (i : PySem.W.isFn K (.ref f) = true)
    (l : K.lookup f = some ⟨oc, od, .func (PySem.W.fnOf m qual (defArgs st) (defBody st) (defScope st) (.ref Tq) kV dc pm an cd ct), sl⟩) (c : PySem.W.codeIn K cd qual = true) (k : PySem.W.keepIn K (.ref f) = true) (lT : K.lookup Tq = some ⟨otq, odq, .seq #[.none] ntq, slq⟩)
    (h1 : ∀ (T : Addr) (kV doc pm : Value) (an : Option Addr) (cdv ct : Value) (us its : List Value), us.length = 1 → its.length = 1 → ∃ k, bindArgs (PySem.W.fnOf m qual (defArgs st) (defBody st) (defScope st) (.ref T) kV doc pm an cdv ct) ⟨us, []⟩ = seqItems? (.ref T) >>= k ∧ k (some its.toArray) = pure ((["self", "one"] : List Str).zip (us ++ its.drop 0)))
    (h2 : ∀ (T : Addr) (kV doc pm : Value) (an : Option Addr) (cdv ct : Value) (us its : List Value), us.length = 2 → its.length = 1 → ∃ k, bindArgs (PySem.W.fnOf m qual (defArgs st) (defBody st) (defScope st) (.ref T) kV doc pm an cdv ct) ⟨us, []⟩ = seqItems? (.ref T) >>= k ∧ k (some its.toArray) = pure ((["self", "one"] : List Str).zip (us ++ its.drop 1))) : MdD K C m qual st := by
  have F : FunD K m qual (defArgs st) (defBody st) (defScope st) [.non] [] f (PySem.W.fnOf m qual (defArgs st) (defBody st) (defScope st) (.ref Tq) kV dc pm an cd ct) :=
    ⟨⟨oc, od, _, kV, dc, pm, an, cd, ct, sl, rfl, l, c, .inr ⟨by simp, Tq, _, [.none], _, rfl, lT, rfl, .cons rfl .nil⟩, .inl rfl⟩, k⟩
  obtain ⟨d1, v1, b1⟩ := F.binds1 (ps := ["self", "one"]) 2 1 (by simp) rfl h2
  obtain ⟨d0, v0, b0⟩ := F.binds1 (ps := ["self", "one"]) 1 0 (by simp) rfl h1
  cases v1
  exact ⟨f, _, F, ⟨a, i, k⟩, b1, d0, v0, b0⟩

/-! ### rules of our own -/
section
variable {X : Cx}
/-- list + list, each tracked, locked or written -/
def rCatS (K : PySem.W.Frag) : R2 := fun x y H Q => ∃ l b xs zs, x = .ref l ∧ y = .ref b ∧ SqL K H l xs ∧ SqL K H b zs ∧ xs.length + zs.length ≤ sizeLine ∧ ∀ p, H p = none → Q (.ref p) (upd H p (.lst (xs ++ zs)))
theorem op_catS : OpR X (binaryOp .Add) (rCatS X.K) := by
  intro pins s σ H x y v u Q I rx ry h
  obtain ⟨l, b, xs, zs, rfl, rfl, hH, hB, hz, q⟩ := h
  cases rx
  cases ry
  obtain ⟨its, r, pl, z⟩ := I.list hH
  obtain ⟨its2, r2, pl2, z2⟩ := I.list hB
  obtain ⟨⟨cls, dd, data, sl⟩, ho, hc, n, hd⟩ := id pl.isList
  obtain ⟨⟨cls2, dd2, data2, sl2⟩, ho2, hc2, n2, hd2⟩ := id pl2.isList
  simp only at hc hd hc2 hd2
  subst hc hd hc2 hd2
  have e : its.toArray ++ its2.toArray = (its ++ its2).toArray := by simp
  have l1 := r.length
  have l2 := r2.length
  refine concat_meets ⟨_, ho, rfl⟩ ⟨_, ho2, rfl⟩ noFill_list_add seq_list_add PySem.F.slot_list_add PySem.F.entry_list_add (PySem.F.args_list_add_2 _ _) (PyProof.Rows.list_addW l b its.toArray its2.toArray n n2 dd dd2 sl sl2 (by rw [List.size_toArray, List.size_toArray]; omega)) ⟨ho, ho2, ?_⟩
  rw [e]
  exact ⟨.ref _, _, I.lnew (t' := s.toks) (r.append r2) (by rw [List.length_append]; omega), rfl, q _ I.fresh⟩
end
theorem cut_to (xs : List V) (k : Nat) : cutV xs none (some (k : Int)) = xs.take k := by
  unfold cutV
  rw [HT.sIx_none, HT.sIx_nat, Nat.sub_zero, List.drop_zero]
  by_cases h : k ≤ xs.length
  · rw [Nat.min_eq_left h]
  · rw [Nat.min_eq_right (by omega), List.take_of_length_le (Nat.le_refl _), List.take_of_length_le (by omega)]
theorem cut_from (xs : List V) (k : Nat) : cutV xs (some (k : Int)) none = xs.drop k := by
  unfold cutV
  rw [HT.sIx_none, HT.sIx_nat]
  by_cases h : k ≤ xs.length
  · rw [Nat.min_eq_left h, List.take_of_length_le (by rw [List.length_drop]; omega)]
  · rw [Nat.min_eq_right (by omega), List.drop_of_length_le (Nat.le_refl _), List.drop_of_length_le (by omega), List.take_nil]
section
variable {X : Cx} {st : Stmt} {t : TS}
theorem ps_nox (h : PS X.nox st t) : PS X st t := ⟨fun pins s σ H D I hw => wpAny_mono (h.run pins s σ H D (I.wish _) hw) (fun _ _ q => q.unwish) fun _ _ z => False.elim z⟩
end
/-! ### methods that may raise -/
structure MetX (P : Program) (w : World) (K : PySem.W.Frag) (mg : Str → Option Value) (base : Heap) (CX : CXT) (k : Nat) (C : Addr) (m : Str) (sp : Sp) (dvs : List V) : Prop where
  ex : ∃ (f : Addr) (fd : FuncData) (ps : List Str) (ds : List Value), Cls K C ∧ Meth K C m f ∧ FnOk P w K mg base CX k f fd ps sp ∧ Binds K fd ps ds ∧ Vals dvs ds
section
variable {X : Cx} {CX : CXT} {k j : Nat} {C : Addr} {m : Str} {sp : Sp} {dvs : List V} {pos apos : Pos} {e o : Expr} {es : List Expr} {ta : TE} {t : TA}
theorem pe_mtX {E : XK} {pl : Sem Bool} (c : MetX X.prog X.w X.K X.mg X.base CX k C m sp dvs) (hr : Room j X.A) (hk : k ≤ j) (hx : Passes CX X E) (he : PE X o ta) (ha : PA X (e :: es) t)
    (hst : starEach (e :: es) X.env = (false, eval e X.env) :: starEach es X.env := by rfl) (hpl : (backTo pos (starEach es X.env)).any (·.1) = false := by rfl)
    (ht : eval (.Call (.Attribute o m apos) (e :: es) [] pos) X.env = (do
      let ov ← eval o X.env
      standAt apos.atName
      let (f, first) ← holding [ov] (getMethod ov m pl)
      callWith pos f first (backTo pos (starEach (e :: es) X.env)) (backToKw pos (keywordEach [] X.env))) := by rfl) :
    PE X (.Call (.Attribute o m apos) (e :: es) [] pos) (tMeth C m sp dvs E ta t) := by
  obtain ⟨f, fd, ps, ds, hc, hm, F, b, d⟩ := c.ex
  exact pe_meth (pl := pl) he hc hm F (hr.mono hk) b d hx ha hst hpl ht
theorem pe_mtX0 {E : XK} {pl : Sem Bool} (c : MetX X.prog X.w X.K X.mg X.base CX k C m sp dvs) (hr : Room j X.A) (hk : k ≤ j) (hx : Passes CX X E) (he : PE X o ta)
    (ht : eval (.Call (.Attribute o m apos) [] [] pos) X.env = (do
      let ov ← eval o X.env
      standAt apos.atName
      let (f, first) ← holding [ov] (getMethod ov m pl)
      callWith pos f first (backTo pos (starEach [] X.env)) (backToKw pos (keywordEach [] X.env))) := by rfl) :
    PE X (.Call (.Attribute o m apos) [] [] pos) (tMeth C m sp dvs E ta tNil) := by
  obtain ⟨f, fd, ps, ds, hc, hm, F, b, d⟩ := c.ex
  exact pe_meth0 (pl := pl) he hc hm F (hr.mono hk) b d hx ht
/-- within a try: what is raised is wished for at the caller's slots -/
def tMethS (C : Addr) (m : Str) (sp : Sp) (dvs : List V) (E : St → XK) (ta : TE) (t : TA) : TE := fun σ H Q => tMeth C m sp dvs (E σ) ta t σ H Q
theorem pe_mtS {E : St → XK} {pl : Sem Bool} (c : MetX X.prog X.w X.K X.mg X.base CX k C m sp dvs) (hr : Room j X.A) (hk : k ≤ j) (hx : ∀ σ, PassesAt CX X σ (E σ)) (he : PE X o ta) (ha : PA X (e :: es) t)
    (hst : starEach (e :: es) X.env = (false, eval e X.env) :: starEach es X.env := by rfl) (hpl : (backTo pos (starEach es X.env)).any (·.1) = false := by rfl)
    (ht : eval (.Call (.Attribute o m apos) (e :: es) [] pos) X.env = (do
      let ov ← eval o X.env
      standAt apos.atName
      let (f, first) ← holding [ov] (getMethod ov m pl)
      callWith pos f first (backTo pos (starEach (e :: es) X.env)) (backToKw pos (keywordEach [] X.env))) := by rfl) :
    PE X (.Call (.Attribute o m apos) (e :: es) [] pos) (tMethS C m sp dvs E ta t) := by
  obtain ⟨f, fd, ps, ds, hc, hm, F, b, d⟩ := c.ex
  refine ⟨fun pins s σ H Q I h => ?_⟩
  refine PySem.W.methodCall_KW (pl := pl) (thn (he.run pins s σ H _ I h) fun u s1 ⟨x, H1, I1, rx, a, dx, fs, ex, ea, l, q⟩ => ?_) ht
  subst ex
  obtain rfl : u = Value.ref a := rx
  refine getmeth_ok I1 ea hc hm l ?_
  refine PySem.W.callWith_K (first := [.ref a]) (h₀ := X.base) I.ok.mod.kin hm.kp (thn (ha.run pos pins s1 σ H1 _ I1 q) fun us s2 ⟨vs, H2, I2, r, q2⟩ => ⟨I2.kIn, ?_⟩) hst hpl
  exact run_fnSD (us := .ref a :: us) (vs := .ref a :: vs) F (hr.mono hk) b d (hx σ) I2 (.cons rfl r) q2
end

/-! ### list(zip(a, b)) of two lists of one length, the first of ints: a new list of new pairs -/
section
open PySem.W PyProof.Rows
variable {prog : Program} {w : World} {A : Around} {E : Value → Shared → Prop} {s : Shared} {xs ys : Array Value} {z TI TO i1 i2 l1 l2 S : Addr}
/-- a zip in the midst of being drawn into the list at S -/
def ZMid (xs ys : Array Value) (z TI TO i1 i2 l1 l2 S : Addr) (i : Nat) (h : Heap) : Prop :=
  IsPair h TI (.ref i1) (.ref i2) ∧ h.IsListIter i1 l1 i ∧ h.IsListIter i2 l2 i ∧ h.IsList l1 xs ∧ h.IsList l2 ys ∧
    ((IsZip h z TI TO .none ∧ ∃ a b, IsPair h TO a b) ∨ ∃ T f oT, IsZipHeld h z TI TO T f ∧ h.get? T = some oT ∧ T ≠ z ∧ T ≠ i1 ∧ T ≠ i2 ∧ T ≠ S)
structure ZOff (z TI TO i1 i2 l1 l2 S : Addr) : Prop where
  oz : z ≠ S
  oTI : TI ≠ S
  oTO : TO ≠ S
  o1 : i1 ≠ S
  o2 : i2 ≠ S
  ol1 : l1 ≠ S
  ol2 : l2 ≠ S
theorem ZMid.stay {i : Nat} {h h' : Heap} (m : ZMid xs ys z TI TO i1 i2 l1 l2 S i h) (O : ZOff z TI TO i1 i2 l1 l2 S) (k : ∀ b o, b ≠ S → h.get? b = some o → h'.get? b = some o) : ZMid xs ys z TI TO i1 i2 l1 l2 S i h' := by
  obtain ⟨m1, m2, m3, m4, m5, m6⟩ := m
  refine ⟨k _ _ O.oTI m1, m2.at fun o q => k _ o O.o1 q, m3.at fun o q => k _ o O.o2 q, m4.at fun o q => k _ o O.ol1 q, m5.at fun o q => k _ o O.ol2 q, ?_⟩
  rcases m6 with ⟨n1, a, b, n2⟩ | ⟨T, f, oT, n1, n2, r⟩
  · exact .inl ⟨k _ _ O.oz n1, a, b, k _ _ O.oTO n2⟩
  · exact .inr ⟨T, f, oT, k _ _ O.oz n1, k _ _ r.2.2.2 n2, r⟩
theorem ZMid.next {i : Nat} {x y : Value} {Q : Option Value → Shared → Prop} (m : ZMid xs ys z TI TO i1 i2 l1 l2 S i s.heap) (D : ZipApart z TI TO i1 i2 l1 l2) (hS : S < s.heap.objs.size) (hx : xs[i]? = some x) (hy : ys[i]? = some y)
    (q : ∀ h', ZMid xs ys z TI TO i1 i2 l1 l2 S (i + 1) h' → IsPair h' s.heap.objs.size x y → h'.objs.size = s.heap.objs.size + 1 →
      (∀ b o, b ≠ z → b ≠ TO → b ≠ i1 → b ≠ i2 → s.heap.get? b = some o → h'.get? b = some o) → Q (some (.ref s.heap.objs.size)) { s with heap := h' }) :
    wpAny (model prog w) A (pyNext (.ref z)) Q E s := by
  obtain ⟨m1, m2, m3, m4, m5, m6⟩ := m
  have up : ∀ {c o}, s.heap.get? c = some o → s.heap.objs.size ≠ c := fun q => Nat.ne_of_gt (Heap.lt_size q)
  have u1 : s.heap.objs.size ≠ i1 := let ⟨_, q, _⟩ := m2; up q
  have u2 : s.heap.objs.size ≠ i2 := let ⟨_, q, _⟩ := m3; up q
  rcases m6 with ⟨n1, a, b, n2⟩ | ⟨T, f, oT, n1, n2, r1, r2, r3, r4⟩
  · refine wpAny_pyNext_zip_item D n1 m1 n2 m2 m3 m4 m5 hx hy fun h' a1 a2 a3 a4 a5 a6 hk => ?_
    exact q h' ⟨hk _ _ D.TIz D.TITO D.TIi1 D.TIi2 m1, a3, a4, m4.at fun o q => hk _ o D.l1z D.l1TO D.l1i1 D.l1i2 q, m5.at fun o q => hk _ o D.l2z D.l2TO D.l2i1 D.l2i2 q,
      .inr ⟨s.heap.objs.size, false, _, a1, a5, up n1, u1, u2, Nat.ne_of_gt hS⟩⟩ a5 a6 hk
  · refine wpAny_pyNext_zip_item_held D n1 n2 m1 m2 m3 m4 m5 hx hy fun h' a1 a3 a4 a5 a6 hk => ?_
    exact q h' ⟨hk _ _ D.TIz D.TIi1 D.TIi2 m1, a3, a4, m4.at fun o q => hk _ o D.l1z D.l1i1 D.l1i2 q, m5.at fun o q => hk _ o D.l2z D.l2i1 D.l2i2 q,
      .inr ⟨T, true, oT, a1, hk _ _ r1 r2 r3 n2, r1, r2, r3, r4⟩⟩ a5 a6 fun b o q1 _ q3 q4 => hk b o q1 q3 q4
theorem ZMid.last {i : Nat} {Q : Option Value → Shared → Prop} (m : ZMid xs ys z TI TO i1 i2 l1 l2 S i s.heap) (D : ZipApart z TI TO i1 i2 l1 l2) (hh : A.handled = none) (hx : xs[i]? = none)
    (q : ∀ h', (∀ b o, b ≠ z → b ≠ TO → b ≠ i1 → b ≠ i2 → s.heap.get? b = some o → h'.get? b = some o) → Q none { s with heap := h' }) : wpAny (model prog w) A (pyNext (.ref z)) Q E s := by
  obtain ⟨m1, m2, m3, m4, m5, m6⟩ := m
  rcases m6 with ⟨n1, a, b, n2⟩ | ⟨T, f, oT, n1, n2, r⟩
  · exact wpAny_pyNext_zip_end hh D n1 m1 n2 m2 m3 m4 m5 (.inl hx) fun h' hk => q h' hk
  · exact wpAny_pyNext_zip_end_held hh D n1 n2 m1 m2 m3 m4 m5 (.inl hx) fun h' hk => q h' fun b o q1 _ q3 q4 => hk b o q1 q3 q4
abbrev LObj (acc : Array Value) (c : Nat) : Obj := { cls := .type "list", dict := none, data := .seq acc c, slots := #[] }
abbrev Zip5 (z TI TO i1 i2 b : Addr) : Prop := b ≠ z ∧ b ≠ TO ∧ b ≠ i1 ∧ b ≠ i2
section
variable {knd : KeyKind prog w Key} {kvs : List (Key × Value)} {R : Result → Shared → Prop} {lo : Addr} {h₁ : Heap}
/-- what is drawn so far -/
structure ZSo (knd : KeyKind prog w Key) (kvs : List (Key × Value)) (xs ys : Array Value) (z TI TO i1 i2 l1 l2 S lo : Addr) (h₁ : Heap) (i : Nat) (h : Heap) (c : Nat) (as : List Addr) : Prop where
  mid : ZMid xs ys z TI TO i1 i2 l1 l2 S i h
  old : ∀ b o, b < lo → h₁.get? b = some o → h.get? b = some o
  lst : h.get? S = some (LObj (as.map Value.ref).toArray c)
  len : as.length = i
  got : KdxG knd kvs S h as
  big : S < h.objs.size
theorem low {b lo z : Addr} (h : b < lo) (l : lo ≤ z) : b ≠ z := Nat.ne_of_lt (Nat.lt_of_lt_of_le h l)
theorem high {b S z : Addr} (l : z < S) (h : S < b) : b ≠ z := Nat.ne_of_gt (Nat.lt_trans l h)
theorem push_obj (as : List Addr) (a : Addr) (c : Nat) : ∃ c', Obj.mapSeq (·.push (Value.ref a)) (LObj (as.map Value.ref).toArray c) = LObj ((as ++ [a]).map Value.ref).toArray c' := by
  have e : (as.map Value.ref).toArray.push (Value.ref a) = ((as ++ [a]).map Value.ref).toArray := by simp
  refine ⟨if ((as.map Value.ref).toArray.push (Value.ref a)).size == (as.map Value.ref).toArray.size then c else c + 1, ?_⟩
  rw [← e]
  rfl
theorem zso_step {i c : Nat} {h h' : Heap} {as : List Addr} {k : Key} {u x : Value} (W : ZSo knd kvs xs ys z TI TO i1 i2 l1 l2 S lo h₁ i h c as) (O : ZOff z TI TO i1 i2 l1 l2 S)
    (L : lo ≤ z ∧ lo ≤ TO ∧ lo ≤ i1 ∧ lo ≤ i2 ∧ lo ≤ S) (L2 : z < S ∧ TO < S ∧ i1 < S ∧ i2 < S) (hx : kvs[i]? = some (k, x)) (hu : knd.is k u = true)
    (mid : ZMid xs ys z TI TO i1 i2 l1 l2 S (i + 1) h') (pr : IsPair h' h.objs.size u x) (hz : h'.objs.size = h.objs.size + 1)
    (hk : ∀ b o, b ≠ z → b ≠ TO → b ≠ i1 → b ≠ i2 → h.get? b = some o → h'.get? b = some o) :
    h'.get? S = some (LObj (as.map Value.ref).toArray c) ∧
    ∃ c', ZSo knd kvs xs ys z TI TO i1 i2 l1 l2 S lo h₁ (i + 1) (h'.update S (Obj.mapSeq (·.push (Value.ref h.objs.size)))) c' (as ++ [h.objs.size]) := by
  have hS' := hk S _ O.oz.symm O.oTO.symm O.o1.symm O.o2.symm W.lst
  have up : ∀ b o, b ≠ S → h'.get? b = some o → (h'.update S (Obj.mapSeq (·.push (Value.ref h.objs.size)))).get? b = some o := fun b o hb q => (Heap.get?_update_other _ _ (Ne.symm hb)).trans q
  have hi : S ≠ h.objs.size := Nat.ne_of_lt W.big
  obtain ⟨c', hc⟩ := push_obj as h.objs.size c
  refine ⟨hS', c', mid.stay O up, fun b o hb q => ?_, (Heap.get?_update_self _ hS' rfl).trans (congrArg some hc), ?_, ⟨?_, ?_, ?_⟩, ?_⟩
  · exact up b o (low hb L.2.2.2.2) (hk b o (low hb L.1) (low hb L.2.1) (low hb L.2.2.1) (low hb L.2.2.2.1) (W.old b o hb q))
  · rw [List.length_append, W.len]; rfl
  · refine List.pairwise_append.mpr ⟨W.got.rise, List.pairwise_singleton _ _, fun a ha b hb => ?_⟩
    rw [List.mem_singleton.mp hb]
    exact W.got.there ha
  · intro a ha
    rcases List.mem_append.mp ha with ha | ha
    · exact W.got.above a ha
    · rw [List.mem_singleton.mp ha]; exact W.big
  · intro j b hj
    rcases Nat.lt_trichotomy j as.length with g | g | g
    · rw [List.getElem?_append_left g] at hj
      obtain ⟨u', k', x', e1, e2, e3⟩ := W.got.pairs j b hj
      have hb := W.got.above b (List.mem_of_getElem? hj)
      exact ⟨u', k', x', e1, e2, up b _ (Nat.ne_of_gt hb) (hk b _ (high L2.1 hb) (high L2.2.1 hb) (high L2.2.2.1 hb) (high L2.2.2.2 hb) e3)⟩
    · subst g
      have hb : h.objs.size = b := by simpa using hj
      subst hb
      exact ⟨u, k, x, by rw [W.len]; exact hx, hu, up _ _ hi.symm pr⟩
    · have no : (as ++ [h.objs.size])[j]? = none := List.getElem?_eq_none (by rw [List.length_append, List.length_singleton]; omega)
      rw [no] at hj; cases hj
  · have q : (h'.update S (Obj.mapSeq (·.push (Value.ref h.objs.size)))).get? h.objs.size = _ := up _ _ hi.symm pr
    exact Nat.lt_trans W.big (Heap.lt_size q)
theorem zso_loop (hh : A.handled = none) (D : ZipApart z TI TO i1 i2 l1 l2) (O : ZOff z TI TO i1 i2 l1 l2 S) (L : lo ≤ z ∧ lo ≤ TO ∧ lo ≤ i1 ∧ lo ≤ i2 ∧ lo ≤ S) (L2 : z < S ∧ TO < S ∧ i1 < S ∧ i2 < S)
    (hn : kvs.length ≤ sizeLine) (nx : xs.size = kvs.length) (ny : ys.size = kvs.length) (hxy : ∀ (i : Nat) (u x : Value), xs[i]? = some u → ys[i]? = some x → ∃ k, kvs[i]? = some (k, x) ∧ knd.is k u = true) (res : Value)
    (hR : ∀ h tk c as, (∀ b o, b < lo → h₁.get? b = some o → h.get? b = some o) → h.get? S = some (LObj (as.map Value.ref).toArray c) → as.length = kvs.length → KdxG knd kvs S h as → R (.ok (.ret res)) { s with heap := h, toks := tk }) :
    ∀ (k i : Nat) (h : Heap) (tk c : Nat) (as : List Addr), kvs.length - i = k → i ≤ kvs.length → ZSo knd kvs xs ys z TI TO i1 i2 l1 l2 S lo h₁ i h c as →
      codeAny (model prog w) A (.builtin "list.extend.loop" ⟨[.ref S, .ref z, res], []⟩) R { s with heap := h, toks := tk } := by
  intro k
  induction k with
  | zero =>
    intro i h tk c as hk hi W
    have e : i = kvs.length := by omega
    refine codeAny_builtin PySem.F.entry_extend_loop ?_
    rw [Around.under_plainId PySem.F.plain_extend_loop]
    show wpAny _ A.in1 (pyNext (.ref z) >>= _) _ _ _
    refine wpAny_bind (ZMid.last (s := { s with heap := h, toks := tk }) (A := A.in1) W.mid D hh (Array.getElem?_eq_none (by omega)) fun h' kp => ?_)
    dsimp only at kp
    refine wpAny_pure (hR h' tk c as (fun b o hb q => kp b o (low hb L.1) (low hb L.2.1) (low hb L.2.2.1) (low hb L.2.2.2.1) (W.old b o hb q)) (kp S _ O.oz.symm O.oTO.symm O.o1.symm O.o2.symm W.lst) (by rw [W.len]; exact e) ⟨W.got.rise, W.got.above, fun j a hj => ?_⟩)
    obtain ⟨u, kk, x, e1, e2, e3⟩ := W.got.pairs j a hj
    have ha := W.got.above a (List.mem_of_getElem? hj)
    exact ⟨u, kk, x, e1, e2, kp a _ (high L2.1 ha) (high L2.2.1 ha) (high L2.2.2.1 ha) (high L2.2.2.2 ha) e3⟩
  | succ k ih =>
    intro i h tk c as hk hi W
    have hlt : i < kvs.length := by omega
    have hx : xs[i]? = some xs[i] := Array.getElem?_eq_getElem (by omega)
    have hy : ys[i]? = some ys[i] := Array.getElem?_eq_getElem (by omega)
    obtain ⟨kk, e1, e2⟩ := hxy i _ _ hx hy
    refine codeAny_builtin PySem.F.entry_extend_loop ?_
    rw [Around.under_plainId PySem.F.plain_extend_loop]
    show wpAny _ A.in1 (pyNext (.ref z) >>= _) _ _ _
    refine wpAny_bind (ZMid.next (s := { s with heap := h, toks := tk }) (A := A.in1) W.mid D W.big hx hy fun h' mid pr hz kp => ?_)
    dsimp only at mid pr hz kp ⊢
    obtain ⟨hS', c', W'⟩ := zso_step W O L L2 e1 e2 mid pr hz kp
    have sz : (as.map Value.ref).toArray.size = i := by rw [List.size_toArray, List.length_map, W.len]
    show wpAny _ A.in1 (updateSeq S (·.push (Value.ref h.objs.size)) >>= _) _ _ _
    refine wpAny_bind ?_
    exact wpAny_updateSeq hS' rfl (wpAny_pure ⟨plainId_quiet PySem.F.plain_extend_loop _, ih (i + 1) _ tk c' _ (by omega) hlt W'⟩) (by rw [sz]; omega) (by show ((as.map Value.ref).toArray.push _).size ≤ sizeLine + 1; rw [Array.size_push, sz]; omega)
end
section
variable {knd : KeyKind prog w Key} {kvs : List (Key × Value)} {R : Result → Shared → Prop}
theorem zip_nolen : typeLookup (.type "zip") "__len__" = pure none := by rw [typeLookup_type, builtinLookup_eq_fast]; kernel_rfl
theorem zip_nohint : typeLookup (.type "zip") "__length_hint__" = pure none := by rw [typeLookup_type, builtinLookup_eq_fast]; kernel_rfl
theorem zip_hint {r : Addr} (hT : s.TypeIs (.ref r) "zip") {Q : Bool → Shared → Prop} (h : Q true s) : wpAny (model prog w) A (Builtin.List.listLengthHint (.ref r)) Q E s := by
  unfold Builtin.List.listLengthHint
  refine wpAny_bind (wpAny_specialOf hT zip_nolen ?_)
  refine wpAny_ite_split (fun hab => absurd hab (by decide)) (fun _ => ?_)
  refine wpAny_ite_split (fun hab => absurd hab (by decide)) (fun _ => ?_)
  exact wpAny_bind (wpAny_specialOf hT zip_nohint (wpAny_pure h))
/-- what stands ahead of the drawing -/
structure ZReady (knd : KeyKind prog w Key) (kvs : List (Key × Value)) (xs ys : Array Value) (z TI TO i1 i2 l1 l2 lo : Addr) (h₁ h : Heap) : Prop where
  hz : IsZip h z TI TO .none
  hTI : IsPair h TI (.ref i1) (.ref i2)
  hTO : IsPair h TO .none .none
  it1 : h.IsListIter i1 l1 0
  it2 : h.IsListIter i2 l2 0
  li1 : h.IsList l1 xs
  li2 : h.IsList l2 ys
  ap : ZipApart z TI TO i1 i2 l1 l2
  L : lo ≤ z ∧ lo ≤ TO ∧ lo ≤ i1 ∧ lo ≤ i2
  up : lo ≤ h.objs.size
  old : ∀ b o, h₁.get? b = some o → h.get? b = some o
  nx : xs.size = kvs.length
  ny : ys.size = kvs.length
  hn : kvs.length ≤ sizeLine
  hxy : ∀ (i : Nat) (u x : Value), xs[i]? = some u → ys[i]? = some x → ∃ k, kvs[i]? = some (k, x) ∧ knd.is k u = true
theorem ZReady.push {h₁ h : Heap} {lo : Addr} (Z : ZReady knd kvs xs ys z TI TO i1 i2 l1 l2 lo h₁ h) (o : Obj) : ZReady knd kvs xs ys z TI TO i1 i2 l1 l2 lo h₁ (h.push o) := by
  have k : ∀ b q, h.get? b = some q → (h.push o).get? b = some q := fun b q e => Heap.get?_push_of_some _ e
  exact ⟨k _ _ Z.hz, k _ _ Z.hTI, k _ _ Z.hTO, Z.it1.at fun q e => k _ q e, Z.it2.at fun q e => k _ q e, Z.li1.at fun q e => k _ q e, Z.li2.at fun q e => k _ q e, Z.ap, Z.L, Nat.le_trans Z.up (by rw [Heap.size_push]; exact Nat.le_succ _), fun b q e => k b q (Z.old b q e), Z.nx, Z.ny, Z.hn, Z.hxy⟩
theorem ZReady.below {h₁ h : Heap} {lo : Addr} (Z : ZReady knd kvs xs ys z TI TO i1 i2 l1 l2 lo h₁ h) : z < h.objs.size ∧ TI < h.objs.size ∧ TO < h.objs.size ∧ i1 < h.objs.size ∧ i2 < h.objs.size ∧ l1 < h.objs.size ∧ l2 < h.objs.size := by
  obtain ⟨_, a1, _⟩ := Z.it1
  obtain ⟨_, a2, _⟩ := Z.it2
  obtain ⟨_, a3, _⟩ := Z.li1
  obtain ⟨_, a4, _⟩ := Z.li2
  exact ⟨Heap.lt_size Z.hz, Heap.lt_size Z.hTI, Heap.lt_size Z.hTO, Heap.lt_size a1, Heap.lt_size a2, Heap.lt_size a3, Heap.lt_size a4⟩
/-- S is the last object, a new empty list -/
theorem zip_into {lo : Addr} {h₁ h₀ : Heap} (hh : A.handled = none) (Z : ZReady knd kvs xs ys z TI TO i1 i2 l1 l2 lo h₁ h₀) (hs : s.heap = h₀.push (LObj #[] 0))
    (hR : ∀ h tk c as, (∀ b o, b < lo → h₁.get? b = some o → h.get? b = some o) → h.get? h₀.objs.size = some (LObj (as.map Value.ref).toArray c) → as.length = kvs.length → KdxG knd kvs h₀.objs.size h as → R (.ok (.ret .none)) { s with heap := h, toks := tk }) :
    wpAny (model prog w) A.in1 (Builtin.«list.__init__» ⟨[.ref h₀.objs.size, .ref z], []⟩)
      (fun fin s' => match fin with | .done f => R (.ok f) s' | .again c' => c'.quiet = true ∧ codeAny (model prog w) A c' R s') (fun e s' => R (.error e) s') s := by
  obtain ⟨b1, b2, b3, b4, b5, b6, b7⟩ := Z.below
  have O : ZOff z TI TO i1 i2 l1 l2 h₀.objs.size := ⟨Nat.ne_of_lt b1, Nat.ne_of_lt b2, Nat.ne_of_lt b3, Nat.ne_of_lt b4, Nat.ne_of_lt b5, Nat.ne_of_lt b6, Nat.ne_of_lt b7⟩
  have P := Z.push (LObj #[] 0)
  rw [← hs] at P
  have hS : s.heap.get? h₀.objs.size = some (LObj #[] 0) := by rw [hs]; exact Heap.get?_push_size _ rfl
  generalize hSS : h₀.objs.size = S at *
  have m0 : ZMid xs ys z TI TO i1 i2 l1 l2 S 0 s.heap := ⟨P.hTI, P.it1, P.it2, P.li1, P.li2, .inl ⟨P.hz, _, _, P.hTO⟩⟩
  -- from any heap in which only S has turned, and is empty
  have run : ∀ (h : Heap) (c tk : Nat), (∀ b o, b ≠ S → s.heap.get? b = some o → h.get? b = some o) → h.get? S = some (LObj #[] c) → codeAny (model prog w) A (.builtin "list.extend.loop" ⟨[.ref S, .ref z, .none], []⟩) R { s with heap := h, toks := tk } := fun h c tk kp q => by
    refine zso_loop (lo := lo) (h₁ := h₁) hh Z.ap O ⟨Z.L.1, Z.L.2.1, Z.L.2.2.1, Z.L.2.2.2, by rw [← hSS]; exact Z.up⟩ ⟨b1, b3, b4, b5⟩ Z.hn Z.nx Z.ny Z.hxy .none hR kvs.length 0 h tk c [] (Nat.sub_zero _) (Nat.zero_le _) ?_
    refine ⟨m0.stay O kp, fun b o hb e => kp b o (Nat.ne_of_lt (Nat.lt_of_lt_of_le hb (by rw [← hSS]; exact Z.up))) (P.old b o e), q, rfl, ⟨List.Pairwise.nil, (fun _ ha => nomatch ha), fun j a hj => ?_⟩, Heap.lt_size q⟩
    have e2 : ([] : List Addr)[j]? = none := List.getElem?_eq_none (Nat.zero_le _)
    rw [e2] at hj
    cases hj
  show wpAny _ _ (do let was ← Builtin.List.listItems (.ref S); Builtin.List.listUpdate (.ref S) (fun _ => #[]); letGo was.toList.reverse; Builtin.List.listExtendWith (.ref S) (.ref z) .none) _ _ s
  refine wpAny_bind ?_
  unfold Builtin.List.listItems
  refine wpAny_bind (wpAny_seqItems hS rfl (wpAny_pure ?_))
  show wpAny _ _ (updateSeq S (fun _ => #[]) >>= fun _ => letGo ((#[] : Array Value).toList.reverse) >>= fun _ => Builtin.List.listExtendWith (.ref S) (.ref z) .none) _ _ s
  refine wpAny_bind (wpAny_updateSeq hS rfl ?_)
  have hS2 := Heap.get?_update_self (Obj.mapSeq (fun _ => (#[] : Array Value))) hS rfl
  have k2 : ∀ b o, b ≠ S → s.heap.get? b = some o → (s.heap.update S (Obj.mapSeq (fun _ => (#[] : Array Value)))).get? b = some o := fun b o hb e => (Heap.get?_update_other _ _ (Ne.symm hb)).trans e
  refine wpAny_bind (wpAny_letGo ?_)
  unfold Builtin.List.listExtendWith
  have hz2 : IsZip (s.heap.update S (Obj.mapSeq (fun _ => (#[] : Array Value)))) z TI TO .none := k2 _ _ O.oz P.hz
  have tz : Shared.TypeIs { s with heap := s.heap.update S (Obj.mapSeq (fun _ => (#[] : Array Value))) } (.ref z) "zip" := ⟨_, hz2, rfl⟩
  refine wpAny_bind (wpAny_typeOf (T := "zip") tz ?_)
  have n1 : Builtin.List.listSameRef (.ref S) (.ref z) = false := by simp [Builtin.List.listSameRef, O.oz.symm]
  have n2 : (Value.type "zip" == Value.type "list") = false := by decide
  have n3 : (Value.type "zip" == Value.type "tuple") = false := by decide
  simp only [n1, n2, n3, Bool.or_false, Bool.false_eq_true, if_false]
  refine wpAny_bind (wpAny_pyIter_zip hz2 ?_)
  refine wpAny_bind (wpAny_holding (zip_hint tz ?_))
  refine wpAny_ite_split (fun _ => ?_) (fun _ => wpAny_pure ⟨plainId_quiet PySem.F.plain_extend_loop _, run _ _ _ k2 hS2⟩)
  refine wpAny_bind (wpAny_rule ?_)
  refine wpAny_bind ?_
  show wpAny _ _ (updateSeq S (·.push .none) >>= fun _ => updateSeq S (·.pop)) _ _ _
  refine wpAny_bind (wpAny_updateSeq hS2 rfl ?_)
  have hS3 := Heap.get?_update_self (Obj.mapSeq (·.push Value.none)) hS2 rfl
  refine wpAny_updateSeq (hz := by seq_fits) hS3 rfl ?_
  have hS4 := Heap.get?_update_self (Obj.mapSeq (·.pop)) hS3 rfl
  refine wpAny_pure ⟨plainId_quiet PySem.F.plain_extend_loop _, run _ _ _ (fun b o hb e => ?_) hS4⟩
  exact (Heap.get?_update_other _ _ (Ne.symm hb)).trans ((Heap.get?_update_other _ _ (Ne.symm hb)).trans (k2 b o hb e))
theorem call_list_zip {lo : Addr} {h₁ : Heap} {Q : Value → Shared → Prop} (hh : A.handled = none) (Z : ZReady knd kvs xs ys z TI TO i1 i2 l1 l2 lo h₁ s.heap)
    (hQ : ∀ h tk c as, (∀ b o, b < lo → h₁.get? b = some o → h.get? b = some o) → h.get? s.heap.objs.size = some (LObj (as.map Value.ref).toArray c) → as.length = kvs.length → KdxG knd kvs s.heap.objs.size h as → Q (.ref s.heap.objs.size) { s with heap := h, toks := tk }) :
    wpAny (model prog w) A (call (.type "list") [.ref z]) Q E s := by
  refine callType_codes (Q₁ := fun obj s₁ => obj = .ref s.heap.objs.size ∧ s₁ = { s with heap := s.heap.push (LObj #[] 0) }) PySem.F.called_list (PySem.F.typeCall_list_1 _) PySem.F.entry_list_init (code_list_new _ ⟨rfl, rfl⟩) fun obj s₁ g => ?_
  obtain ⟨rfl, rfl⟩ := g
  have hS : (s.heap.push (LObj #[] 0)).get? s.heap.objs.size = some (LObj #[] 0) := Heap.get?_push_size _ rfl
  exact ⟨⟨_, hS, rfl⟩, PySem.F.args_list_init_2 _ _, zip_into (A := A.in1) hh Z rfl fun h tk c as k1 k2 k3 k4 => ⟨rfl, hQ h tk c as k1 k2 k3 k4⟩⟩
end
end

section
open LiI PySem.W
variable {X : Cx}
def rZipL (K : PySem.W.Frag) : List V → Hp → VK → Prop := fun vs H Q => ∃ (a b : Addr) (ts : List Int) (ms : List V), vs = [.ref a, .ref b] ∧ SqL K H a (ts.map V.int) ∧ SqL K H b ms ∧ ms.length = ts.length ∧
  ∀ (H' : Hp) (p : Addr) (as : List Addr), Same H H' → H p = none → (∀ t ∈ as, H t = none) → p ∉ as → H' p = some (.lst (as.map V.ref)) → as.length = ts.length →
    (∀ (i : Nat) (t : Int) (m : V), ts[i]? = some t → ms[i]? = some m → ∃ q, as[i]? = some q ∧ H' q = some (.tup [.int t, m])) → Q (.ref p) H'
theorem kv_of : ∀ {ts : List Int} {ms : List V} {us : List Value}, ms.length = ts.length → Vals ms us → KV ((ts.zip ms).map fun q => ((Sum.inl q.1 : Key), q.2)) ((ts.zip us).map fun q => ((Sum.inl q.1 : Key), q.2))
  | [], _, _, _, _ => by simp; exact .nil
  | _ :: _, [], _, h, _ => by simp at h
  | t :: ts, m :: ms, _, h, .cons r rr => .cons ⟨rfl, r⟩ (kv_of (by simpa using h) rr)
theorem pairs_laid {pins : List (Addr × Obj)} {σ : L2.St} {H : Hp} {s : Shared} {h' : Heap} {tk c : Nat} {S : Addr} {kvs : List (Key × V)} {vs : List (Key × Value)} {as : List Addr} (I : Inv X pins σ H s) (hz : kvs.length ≤ sizeLine) (kv : KV kvs vs) (hS0 : s.heap.objs.size ≤ S)
    (hk : ∀ b o, s.heap.get? b = some o → h'.get? b = some o) (hS : h'.get? S = some (LObj (as.map Value.ref).toArray c)) (hl : as.length = vs.length) (hG : KdxG (mixKind X.prog X.w) vs S h' as) :
    ∃ H' : Hp, Same H H' ∧ H S = none ∧ (∀ t ∈ as, H t = none) ∧ S ∉ as ∧ H' S = some (.lst (as.map V.ref)) ∧ Paired (fun (t : Addr) (q : Key × V) => H' t = some (.tup [kV q.1, q.2])) as kvs ∧ Inv X pins σ H' { s with heap := h', toks := tk } := by
  have lk : kvs.length = vs.length := Paired.length kv
  have hSn : S ∉ as := fun z => Nat.lt_irrefl _ (hG.above _ z)
  have nd : as.Nodup := List.Pairwise.imp (fun {a b} (h : a < b) => Nat.ne_of_lt h) hG.rise
  have fr : ∀ b, S ≤ b → H b = none := fun b hb => I.hok.fresh (Nat.le_trans hS0 hb)
  have new : ∀ t ∈ as, H t = none := fun t ht => fr t (Nat.le_of_lt (hG.above t ht))
  have newS : H S = none := fr S (Nat.le_refl _)
  have atP := putT_at as kvs (upd H S (.lst (as.map V.ref))) (by omega) nd
  have off : ∀ b, b ∉ as → b ≠ S → putT (upd H S (.lst (as.map V.ref))) as kvs b = H b := fun b g1 g2 => (putT_off as kvs _ g1).trans (upd_ne g2)
  have below : ∀ b o, s.heap.get? b = some o → b < S := fun b o q => Nat.lt_of_lt_of_le (Heap.lt_size q) hS0
  have kp : ∀ b u, H b = some u → (putT (upd H S (.lst (as.map V.ref))) as kvs) b = some u := fun b u q =>
    (off b (fun z => by rw [new b z] at q; cases q) (fun z => by rw [z, newS] at q; cases q)).trans q
  have eS : putT (upd H S (.lst (as.map V.ref))) as kvs S = some (.lst (as.map V.ref)) := (putT_off as kvs _ hSn).trans upd_same
  refine ⟨putT (upd H S (.lst (as.map V.ref))) as kvs, kp, newS, new, hSn, eS, atP, ?_⟩
  refine I.call' (ch := []) rfl ⟨fun b o q _ _ _ => hk b o q, fun b o q _ _ _ => ⟨o.slots, hk b o q⟩, fun b o q n _ => ?_, fun b o q _ => ⟨o, hk b o q⟩, fun b xs q => kp b _ q, fun b o u q => kp b _ q, fun b ps q => ⟨#[], by rw [kp b _ q]; simp⟩⟩ (fun b u q => ?_) I.bare fun b z => by simp at z
  · have g := below b o q
    exact (off b (fun z => absurd (Nat.lt_trans g (hG.above b z)) (Nat.lt_irrefl _)) (Nat.ne_of_lt g)).trans n
  · by_cases hb : b ∈ as
    · obtain ⟨j, pk, e1, e2, e3⟩ := paired_ix atP hb
      rw [e3] at q
      cases q
      obtain ⟨key, k, x, f1, f2, f3⟩ := hG.pairs j b e1
      obtain ⟨qv, g1, g2, g3⟩ := LiI.paired_get kv e2
      rw [f1] at g1
      cases g1
      have rk : RelV (kV pk.1) key := by
        rw [g2]
        exact relV_key (show keyIs k key = true from f2)
      exact ⟨by show 2 ≤ sizeLine; decide, [key, x], .cons rk (.cons g3 .nil), ⟨_, f3, rfl, _, rfl⟩⟩
    · by_cases hb2 : b = S
      · rw [hb2] at q ⊢
        rw [eS] at q
        cases q
        exact ⟨by rw [List.length_map]; omega, as.map Value.ref, c, vals_refs as, hS⟩
      · rw [off b hb hb2] at q
        exact (I.hok b u q).stay (fun d v _ y => hk d v y) (fun d y => kp d _ y) fun d xs y => kp d _ y
theorem pe_listZip {a b : Expr} {ta : TA} {p p2 q pos : Pos} (hc : X.calm = true) (hg : Gl X "list") (hm : X.mg "list" = none) (hg2 : Gl X "zip") (hm2 : X.mg "zip" = none) (ha : PA X [a, b] ta)
    (hs : starEach [.Call (.Name "zip" p2) [a, b] [] q] X.env = (false, eval (.Call (.Name "zip" p2) [a, b] [] q) X.env) :: starEach [] X.env := by rfl)
    (hs2 : starEach [a, b] X.env = (false, eval a X.env) :: starEach [b] X.env := by rfl) (hpl : (backTo q (starEach [b] X.env)).any (·.1) = false := by rfl) :
    PE X (.Call (.Name "list" p) [.Call (.Name "zip" p2) [a, b] [] q] [] pos) (tCB (rZipL X.K) ta) := by
  refine ⟨fun pins s σ H Q I h => ?_⟩
  refine wpAny_Call_Name_kw (ld_blt I hg hm (by decide +kernel : bootBuiltins "list" = some (.type "list")) ?_)
  refine PyProof.Rows.callWith_type1 ?_ hs rfl
  rw [hs]
  show wpAny _ _ (spliced ((false, eval (.Call (.Name "zip" p2) [a, b] [] q) X.env) :: backTo pos (starEach [] X.env))) _ _ s
  refine Calls.spliced_cons ?_
  refine PyProof.Rows.Call_ (ld_blt I hg2 hm2 PyProof.Rows.boot_zip (PyProof.Rows.callWith_type1 (thn (ha.run q pins s σ H _ I h) fun us s1 ⟨vs, H1, I1, r1, q1⟩ => ?_) hs2 hpl))
  obtain ⟨la, lb, ts, ms, ex, hqa, hqb, hlen, q2⟩ := q1
  subst ex
  cases r1 with
  | cons r rr =>
    cases rr with
    | cons r' rr =>
      cases rr
      cases r
      cases r'
      obtain ⟨its, rv, pa, za⟩ := I1.list hqa
      obtain ⟨its2, rv2, pb, zb⟩ := I1.list hqb
      have ea := rv.length
      have eb := rv2.length
      rw [List.length_map] at ea
      refine call_zip_2 pa.isList pb.isList fun h' hz hTI hTO h1 h2 hsz hk => ?_
      refine Calls.spliced_nil ?_
      have I2 : Inv X pins σ H1 { s1 with heap := h' } := I1.kept (t' := s1.toks) hk
      have kvl : ((ts.zip its2).map fun q => ((Sum.inl q.1 : Key), q.2)).length = ts.length := by
        rw [List.length_map, List.length_zip]
        omega
      have hit : ∀ (i : Nat) (t : Int) (u : Value), ts[i]? = some t → its[i]? = some u → ∃ k, u = Value.int t k := fun i t u e1 e2 => by
        obtain ⟨u', e3, e4⟩ := rv.get (i := i) (x := V.int t) (by rw [List.getElem?_map, e1]; rfl)
        rw [e2] at e3
        cases e3
        exact e4
      have Z : ZReady (mixKind X.prog X.w) ((ts.zip its2).map fun q => ((Sum.inl q.1 : Key), q.2)) its.toArray its2.toArray (s1.heap.objs.size + 4) (s1.heap.objs.size + 2) (s1.heap.objs.size + 3) s1.heap.objs.size (s1.heap.objs.size + 1) la lb s1.heap.objs.size s1.heap h' := by
        refine ⟨hz, hTI, hTO, h1, h2, pa.isList.at fun o e => hk _ o e, pb.isList.at fun o e => hk _ o e, PySem.W.ktu_apart s1.heap.objs.size la lb pa.lt pb.lt, ⟨Nat.le_add_right _ _, Nat.le_add_right _ _, Nat.le_refl _, Nat.le_add_right _ _⟩,
          by rw [hsz]; exact Nat.le_add_right _ _, hk, by rw [kvl, List.size_toArray]; omega, by rw [kvl, List.size_toArray]; omega, by rw [kvl]; rw [List.length_map] at za; exact za, fun i u x e1 e2 => ?_⟩
        have e1' : its[i]? = some u := by simpa using e1
        have e2' : its2[i]? = some x := by simpa using e2
        have hil : i < ts.length := by have := (List.getElem?_eq_some_iff.mp e1').1; omega
        have et : ts[i]? = some ts[i] := List.getElem?_eq_getElem hil
        obtain ⟨tk, rfl⟩ := hit i _ _ et e1'
        refine ⟨Sum.inl ts[i], ?_, keyIs_int ts[i] tk⟩
        have ez : (ts.zip its2)[i]? = some (ts[i], x) := List.getElem?_zip_eq_some.mpr ⟨et, e2'⟩
        rw [List.getElem?_map, ez]
        rfl
      refine call_list_zip (I1.ok.hd hc) Z fun h tk c as k1 k2 k3 k4 => ?_
      dsimp only at k2 k4 ⊢
      obtain ⟨H', g1, g2, g3, g4, g5, g6, J⟩ := pairs_laid (tk := tk) (c := c) I1 (kvs := (ts.zip ms).map fun q => ((Sum.inl q.1 : Key), q.2)) (by rw [List.length_map, List.length_zip]; rw [List.length_map] at za; omega) (kv_of hlen rv2) (by rw [hsz]; exact Nat.le_add_right _ _)
        (fun b o e => k1 b o (Heap.lt_size e) e) k2 k3 k4
      refine ⟨.ref _, H', J, rfl, q2 H' _ as g1 g2 g3 g4 g5 (by rw [k3, kvl]) fun i t m e1 e2 => ?_⟩
      have el := Paired.length g6
      have hz2 : ((ts.zip ms).map fun q => ((Sum.inl q.1 : Key), q.2))[i]? = some ((Sum.inl t : Key), m) := by
        have ez : (ts.zip ms)[i]? = some (t, m) := List.getElem?_zip_eq_some.mpr ⟨e1, e2⟩
        rw [List.getElem?_map, ez]
        rfl
      have hil : i < as.length := by rw [el]; exact (List.getElem?_eq_some_iff.mp hz2).1
      obtain ⟨y, f1, f2⟩ := LiI.paired_get g6 (List.getElem?_eq_getElem hil)
      rw [hz2] at f1
      cases f1
      exact ⟨_, List.getElem?_eq_getElem hil, f2⟩
end

/-! ### the row: what it is between two calls -/
structure R where
  wide : Nat
  given : Nat
  purse : Int
  ord : List Int
  mrk : Int → Int
/-- what holds of every row -/
structure Good (r : R) : Prop where
  w4 : 4 ≤ r.wide
  w60 : r.wide ≤ 60
  nd : r.ord.Nodup
  num : ∀ x ∈ r.ord, 0 ≤ x ∧ x < r.given
  len : r.ord.length ≤ 200
  lo : ∀ x ∈ r.ord, 0 ≤ r.mrk x
  hi : ∀ x ∈ r.ord, r.mrk x < 2 ^ r.wide
  up : r.ord.Pairwise fun x y => r.mrk x < r.mrk y
  few : r.given ≤ 100000
def baseM (m : Int) (l : Nat) : Int := m / 2 ^ l * 2 ^ l
def lies (r : R) (l : Nat) (f x : Int) : Bool := decide (f ≤ r.mrk x) && decide (r.mrk x < f + 2 ^ l)
def cnt (r : R) (m : Int) (l : Nat) : Nat := (r.ord.filter (lies r l (baseM m l))).length
def fits (r : R) (m : Int) (l : Nat) : Bool := !decide ((4 : Int) ^ l < ((cnt r m l : Int) + 1) * 3 ^ l)
/-- the least level from which a stretch around m bears one more -/
def findL (r : R) (m : Int) : Option Nat := (List.range (r.wide + 1)).find? (fits r m)
def aheadM (r : R) : Nat → Int
  | 0 => -1
  | p + 1 => r.mrk (r.ord.getD p 0)
def behindM (r : R) (p : Nat) : Int := if p < r.ord.length then r.mrk (r.ord.getD p 0) else 2 ^ r.wide
def ordIns (r : R) (p : Nat) : List Int := r.ord.take p ++ [(r.given : Int)] ++ r.ord.drop p
def inside (r : R) (p : Nat) (L : Nat) (f : Int) : List Int := (ordIns r p).filter fun x => decide (x = (r.given : Int)) || lies r L f x

/-- what is spread, and the new marks; none: the putting is refused -/
def marksFor (r : R) (p : Nat) : Option (Option (Nat × Int) × List (Int × Int)) :=
  if 2 ≤ behindM r p - aheadM r p then some (none, [((r.given : Int), (aheadM r p + behindM r p) / 2)])
  else match findL r (max (aheadM r p) 0) with
    | none => none
    | some L => some (some (L, baseM (max (aheadM r p) 0) L), (inside r p L (baseM (max (aheadM r p) 0) L)).zip (spreadL L (baseM (max (aheadM r p) 0) L) (inside r p L (baseM (max (aheadM r p) 0) L)).length))
def setM (f : Int → Int) (q : Int × Int) : Int → Int := fun y => if y = q.1 then q.2 else f y
def mkAll (f : Int → Int) (qs : List (Int × Int)) : Int → Int := qs.foldl setM f
def changedOf (r : R) (marked : List (Int × Int)) : List (Int × Int) := marked.filter fun q => decide (q.1 ≠ (r.given : Int)) && decide (r.mrk q.1 ≠ q.2)
def putR (r : R) (p : Nat) (marked : List (Int × Int)) : R :=
  { r with ord := ordIns r p, given := r.given + 1, purse := r.purse + 8 * r.wide - (changedOf r marked).length, mrk := mkAll r.mrk marked }
def takeR (r : R) (x : Int) : R := { r with ord := r.ord.erase x }
def placeOf (r : R) : Option Int → Nat
  | none => 0
  | some x => r.ord.idxOf x + 1
def oneV : Option Int → V
  | none => .non
  | some x => .int x
/-! ### how it stands in the heap -/
def flds (w : Int) (l d : Addr) (g pu : Int) : List (Str × V) := [("_wide", .int w), ("_order", .ref l), ("_marks", .ref d), ("_given", .int g), ("_purse", .int pu)]
theorem fl_wide (w : Int) (l d : Addr) (g pu : Int) : (flds w l d g pu).lookup ("_wide" : Str) = some (.int w) := rfl
theorem fl_order (w : Int) (l d : Addr) (g pu : Int) : (flds w l d g pu).lookup ("_order" : Str) = some (.ref l) := rfl
theorem fl_marks (w : Int) (l d : Addr) (g pu : Int) : (flds w l d g pu).lookup ("_marks" : Str) = some (.ref d) := rfl
theorem fl_given (w : Int) (l d : Addr) (g pu : Int) : (flds w l d g pu).lookup ("_given" : Str) = some (.int g) := rfl
theorem fl_purse (w : Int) (l d : Addr) (g pu : Int) : (flds w l d g pu).lookup ("_purse" : Str) = some (.int pu) := rfl
theorem fl_put_order (w : Int) (l d l' : Addr) (g pu : Int) : putF "_order" (.ref l') (flds w l d g pu) = flds w l' d g pu := rfl
theorem fl_put_given (w : Int) (l d : Addr) (g pu g' : Int) : putF "_given" (.int g') (flds w l d g pu) = flds w l d g' pu := rfl
theorem fl_put_purse (w : Int) (l d : Addr) (g pu pu' : Int) : putF "_purse" (.int pu') (flds w l d g pu) = flds w l d g pu' := rfl
theorem fl_new (w : Int) (l d : Addr) (g pu : Int) : putF "_purse" (.int pu) (putF "_given" (.int g) (putF "_marks" (.ref d) (putF "_order" (.ref l) (putF "_wide" (.int w) [])))) = flds w l d g pu := rfl
structure DictIs (kvs : List (Key × V)) (ord : List Int) (mk : Int → Int) : Prop where
  nd : (kvs.map (·.1)).Nodup
  get : ∀ x : Int, valV kvs (.inl x) = if x ∈ ord then some (.int (mk x)) else none
structure RowAt (C : Addr) (H : Hp) (p l d : Addr) (r : R) : Prop where
  ob : ∃ dx, H p = some (.ins C dx (flds r.wide l d r.given r.purse))
  li : H l = some (.lst (r.ord.map V.int))
  di : ∃ kvs, H d = some (.dK kvs) ∧ kvs.length ≤ r.given ∧ DictIs kvs r.ord r.mrk
theorem RowAt.keep {C : Addr} {H H' : Hp} {p l d : Addr} {r : R} (S : RowAt C H p l d r) (e : Same H H') : RowAt C H' p l d r :=
  ⟨let ⟨dx, h⟩ := S.ob; ⟨dx, e _ _ h⟩, e _ _ S.li, let ⟨kvs, h, q⟩ := S.di; ⟨kvs, e _ _ h, q⟩⟩
theorem RowAt.npl {C : Addr} {H : Hp} {p l d : Addr} {r : R} (S : RowAt C H p l d r) : p ≠ l := let ⟨_, h⟩ := S.ob; ne_of h S.li (by intro z; cases z)
theorem RowAt.npd {C : Addr} {H : Hp} {p l d : Addr} {r : R} (S : RowAt C H p l d r) : p ≠ d := let ⟨_, h⟩ := S.ob; let ⟨_, k, _⟩ := S.di; ne_of h k (by intro z; cases z)
theorem RowAt.nld {C : Addr} {H : Hp} {p l d : Addr} {r : R} (S : RowAt C H p l d r) : l ≠ d := let ⟨_, k, _⟩ := S.di; ne_of S.li k (by intro z; cases z)

/-! ### an error that is caught, kept under another name, and asked later -/
/-- what was caught, of the class cls, at a -/
def ErrK (cls : Value) (a : Addr) : HO := .ext fun h => ∃ (o : Obj) (fv : Array Value), h.get? a = some o ∧ Zc cls none o ∧ o.data = .fields fv
section
variable {X : Cx} {pins : List (Addr × Obj)} {σ : L2.St} {H : Hp} {s : Shared}
/-- what was pinned is tracked from here on -/
theorem track_err {a : Addr} {o : Obj} {fv : Array Value} {cls : Value} (J : Inv X ((a, o) :: pins) σ H s) (hz : Zc cls none o) (hf : o.data = .fields fv) (h0 : X.s_0.heap.get? a = none)
    (hp : ∀ q ∈ X.pn ++ pins, q.1 ≠ a) : Inv X pins σ (upd H a (ErrK cls a)) s := by
  obtain ⟨ha, na, nl, nf, nc⟩ := J.pin (a, o) (List.mem_append_right _ (List.mem_cons_self ..))
  have off : ∀ {b : Addr} {u : HO}, H b = some u → (upd H a (ErrK cls a)) b = some u := fun {b u} e => by
    rw [upd_ne (ne_of_none e na)]; exact e
  refine ⟨J.ok, J.os, J.bare, ⟨J.base.keep, J.base.slot, fun b u e1 e2 e3 => ?_, J.base.there, fun b xs e => off (J.base.tups b xs e), fun b u y e => off (J.base.frzs b u y e), fun b ps e => ?_⟩, J.loc, J.cell, ?_, fun x c e => ?_, fun q hq => ?_, fun b u e => ?_, J.len⟩
  · rw [upd_ne (fun z => by rw [z, h0] at e1; cases e1)]
    exact J.base.free b u e1 e2 e3
  · obtain ⟨m, e2⟩ := J.base.tbls b ps e
    exact ⟨m, off e2⟩
  · rw [upd_ne (fun z => nl z.symm)]
    exact J.free
  · obtain ⟨v, oc, e1, e2⟩ := J.cell x c e
    rw [upd_ne (fun z => by rw [z, ha] at e1; cases e1; exact nc v e2)]
    exact J.freeC x c e
  · have hq' : q ∈ X.pn ++ (a, o) :: pins := by
      rcases List.mem_append.mp hq with g | g
      · exact List.mem_append_left _ g
      · exact List.mem_append_right _ (List.mem_cons_of_mem _ g)
    obtain ⟨w1, w2, w3, w4, w5⟩ := J.pin q hq'
    exact ⟨w1, by rw [upd_ne (hp q hq)]; exact w2, w3, w4, w5⟩
  · by_cases hb : b = a
    · subst hb
      rw [upd_same] at e
      cases e
      exact ⟨⟨o, fv, ha, hz, hf⟩, ⟨o, ha⟩, fun _ _ ⟨o2, f2, y1, y2⟩ kp => ⟨o2, f2, kp o2 y1, y2⟩⟩
    · rw [upd_ne hb] at e
      exact (J.hok b u e).stay (fun _ _ _ y => y) (fun _ y => off y) fun _ _ y => off y
/-- out of the suite, the error still pinned -/
theorem out_of_suite {a : Addr} {o : Obj} {pn' : List (Addr × Obj)} (J : Inv (X.suite a ((a, o) :: (X.pn ++ pins))) pn' σ H s) (ok : X.Ok) : Inv X ((a, o) :: pins) σ H s :=
  ⟨ok, J.os, J.bare, J.base, J.loc, J.cell, J.free, J.freeC, fun q hq => J.pin q (List.mem_append_left _ (by
    rcases List.mem_append.mp hq with g | g
    · exact List.mem_cons_of_mem _ (List.mem_append_left _ g)
    · rcases List.mem_cons.mp g with g | g
      · rw [g]; exact List.mem_cons_self ..
      · exact List.mem_cons_of_mem _ (List.mem_append_right _ g))), J.hok, J.len⟩
end
/-- the wish at what the body raises: the suite y = n, n in slot i, y in slot j -/
def wKept (K : PySem.W.Frag) (c : Value) (i j : Nat) (Wo : WX) (D : Ends) : WX := fun cls d σ H =>
  ∃ b, PySem.W.exmOne K cls c = some b ∧ (b = true → d = none ∧ ∀ a, H a = none → D.nx (((σ.set i (some (.ref a))).set j (some (.ref a))).set i none) (upd H a (ErrK cls a))) ∧ (b = false → Wo cls d σ H)
section
variable {X : Cx} {x n : Str} {c : Value} {i j : Nat} {body : List Stmt} {st : Stmt} {p1 p2 p3 : Pos} {tb : WX → TS} {Wo : WX}
/-- try: body, except x as n: y = n -/
theorem ps_try_kept (hs : X.stack = X.env :: X.outer) (hf : X.env.frame = some X.env.locals) (hex : X.ex = []) (hN : X.N.Nodup) (hi : X.N[i]? = some n) (hil : i < X.N.length) (hln : X.env.kindOf n = some .local) (hc : Names X x c) (tk : Takes X Wo)
    (hb : ∀ (W : WX) (pn : List (Addr × Obj)) (xe : Value → Shared → Prop), Takes (X.tr pn xe) W → PassesOwn (model X.prog X.w) X.A X.env xe → PSs (X.tr pn xe) body (tb W))
    (hsu : ∀ (a : Addr) (o : Obj) (pn : List (Addr × Obj)), PSs (X.suite a ((a, o) :: pn)) [st] (tAsg (tVar i) (gName j))) :
    PS X (.Try body [.ExceptHandler (some (.Name x p1)) (some n) [st] p2] [] [] p3) (fun D σ H => tb (wKept X.K c i j Wo D) D σ H) := by
  refine ⟨fun pins s σ H D I hw => ?_⟩
  have ok := I.ok
  have hst : X.A.frames = some (X.env :: X.outer) := by rw [← hs]; exact ok.frames
  refine wpAny_Try_except ?_
  have run := (hb (wKept X.K c i j Wo D) (X.pn ++ pins) (fun e s₁ => wpAny (model X.prog X.w) X.A (noteFrame e X.env) (fun _ s₂ => wpAny (model X.prog X.w) X.A (setFlight e none) (fun _ s₃ =>
      wpAny (model X.prog X.w) X.A (handleBy e X.env [.ExceptHandler (some (.Name x p1)) (some n) [st] p2]) (SP X pins D) X.xe s₃) X.xe s₂) X.xe s₁)
    (fun u s' air => by
      obtain ⟨a, B, sI, qs, σ1, H1, cls, d, rfl, J0, inB, ups, sky, na, hos, hag, b, hex1, yes, no⟩ := air
      have J : Inv X pins σ1 H1 sI := J0.ofTry ok
      rw [show (X.tr (X.pn ++ pins) _).stack = X.env :: X.outer from hs] at sky
      show wpAny (model X.prog X.w) X.A (noteFrame (.ref a) X.env) _ _ _
      refine Sky.land Zc.steady hst hf sky fun hA flA upA => ?_
      have JA : Inv X pins σ1 H1 { s' with heap := hA } := J.landed inB flA.1 (ups.trans upA) hos hag
      obtain ⟨oA, vA, eA, zA, dA⟩ := flA.there
      -- it is none of the frames
      have nfr : a ∉ frs (X.env :: X.outer) := fun hm => by
        obtain ⟨_, o', e', hno⟩ := flA.2.2.1.mem hm
        rw [eA] at e'; cases e'
        exact hno _ dA
      have nl : a ≠ X.env.locals := fun z => nfr (by
        rw [z]
        exact List.mem_filterMap.mpr ⟨X.env, List.mem_cons_self .., hf⟩)
      have nfs : a ∉ X.fs := fun hm => nfr (by
        obtain ⟨e, he, q⟩ := List.mem_filterMap.mp hm
        exact List.mem_filterMap.mpr ⟨e, List.mem_cons_of_mem _ he, q⟩)
      -- it is new
      have notB : ∀ {b : Addr} {o : Obj}, sI.heap.get? b = some o → b ∉ frs X.stack → b ≠ a := fun {b o} e hb z => by
        have := inB b o e hb
        rw [z, flA.2.1] at this
        cases this
      have h0 : X.s_0.heap.get? a = none := by
        cases e : X.s_0.heap.get? a with
        | none => rfl
        | some o =>
          obtain ⟨o', e'⟩ := J.base.there a o e (by rw [hex]; exact List.not_mem_nil)
          exact absurd rfl (notB e' (by rw [hs]; exact nfr))
      have hpn : ∀ q ∈ X.pn ++ pins, q.1 ≠ a := fun q hq => by
        obtain ⟨w1, _, w3, w4, _⟩ := J.pin q hq
        refine notB w1 fun hm => ?_
        rw [hs] at hm
        obtain ⟨e, he, z⟩ := List.mem_filterMap.mp hm
        rcases List.mem_cons.mp he with g | g
        · rw [g, hf] at z
          exact w3 (Option.some.inj z).symm
        · exact w4 (List.mem_filterMap.mpr ⟨e, g, z⟩)
      have SA := JA.suite eA dA na nl nfs
      -- the clause is asked
      refine wpAny_handleBy_cons (codeAny_handlers_test ?_) (by intro z; cases z)
      have ty : PySem.W.Looks (model X.prog X.w) hA (typeOf (.ref a)) cls := fun _ _ _ _ k q => wpAny_typeOf_ref (k _ _ eA) (zA.1.symm ▸ q)
      have hit := PySem.W.exm_one (M := model X.prog X.w) JA.kIn ty hex1
      have named : ∀ {Q : Value → Shared → Prop} {E : Value → Shared → Prop}, Q c { s' with heap := hA } → wpAny (model X.prog X.w) (X.A.mark (some (.ref a))) (eval (.Name x p1) X.env) Q E { s' with heap := hA } := fun {Q E} q => by
        obtain ⟨g1, g2, g3 | ⟨g3, g4, g5⟩⟩ := hc
        · exact ld_glob (X := X.suite a ((a, oA) :: (X.pn ++ pins))) SA g1 g3 q g2
        · exact ld_blt (X := X.suite a ((a, oA) :: (X.pn ++ pins))) SA g1 g3 g4 q g5 g2
      refine named (hit.here ?_)
      cases b with
      | true =>
        obtain ⟨rfl, goal⟩ := yes rfl
        refine codeAny_handlers_suite_as (HandSPX.lands_againZ flA fun hB flB upB => ?_)
        have JB : Inv X pins σ1 H1 { s' with heap := hB } := J.landed inB flB.1 ((ups.trans upA).trans upB) hos hag
        obtain ⟨oB, vB, eB, zB, dB⟩ := flB.there
        refine store_ok (X := X.suite a ((a, oB) :: (X.pn ++ pins))) (v := .ref a) (JB.suite eB dB na nl nfs) hN hi (.inl hln) rfl (fun s5 S5 => ?_) (.inr hln)
        have hi1 : (σ1.set i (some (V.ref a)))[i]? = some (some (.ref a)) := List.getElem?_set_self (by rw [JB.len]; exact hil)
        refine wpAny_mono ((hsu a oB (X.pn ++ pins)).run [] s5 _ H1 { nx := fun σ' H' => σ' = (σ1.set i (some (.ref a))).set j (some (.ref a)) ∧ H' = H1, rt := fun _ _ => False, bk := fun _ _ => False, ct := fun _ _ => False } S5 ⟨_, hi1, rfl, rfl⟩) (fun f s6 out => ?_) (fun _ _ z => z.elim)
        cases f with
        | next =>
          obtain ⟨σ6, H6, S6, rfl, rfl⟩ := out
          exact gone_ok (out_of_suite S6 ok) hN hi hln fun s7 J7 => ⟨_, _, track_err J7 zB dB h0 hpn, goal a na⟩
        | brk => obtain ⟨_, _, _, z⟩ := out; exact z.elim
        | cont => obtain ⟨_, _, _, z⟩ := out; exact z.elim
        | ret u => obtain ⟨_, _, _, _, _, z⟩ := out; exact z.elim
      | false =>
        show wpAny _ X.A (handleBy (.ref a) X.env []) _ _ _
        refine wpAny_handleBy_nil ?_
        obtain ⟨_, _, _, oe, ve, T, _, _, e1, _, e2, e3, _⟩ := id flA
        have up : wpAny (model X.prog X.w) X.A (setFlight (.ref a) X.env.frame) (fun _ s4 => wpAny (model X.prog X.w) X.A (throw (.ref a) : Sem Flow) (SP X pins D) X.xe s4) X.xe { s' with heap := hA } := by
          rw [hf]
          refine HandSPX.setFlight_upZ flA fun hB fB upB => wpAny_throw (tk _ _ ⟨a, B, sI, pins, σ1, H1, cls, d, rfl, J, inB, (ups.trans upA).trans upB, .inr (.inr (by rw [hs]; exact fB)), na, hos, hag, no rfl⟩)
        unfold PySem.passOn
        refine wpAny_bind (wpAny_field e1 e2 e3 ?_)
        rw [if_neg (by simp)]
        first
          | exact wpAny_bind (wpAny_pure (wpAny_bind up))
          | exact wpAny_bind up)
    PassesOwn.looking).run [] s σ H D (I.toTry _) hw
  refine wpAny_mono run (fun f s1 out => ?_) (fun _ _ z => z)
  cases f with
  | next => obtain ⟨σ', H', J, q⟩ := out; exact wpAny_execs_nil ⟨σ', H', J.ofTry ok, q⟩
  | brk => obtain ⟨σ', H', J, q⟩ := out; exact ⟨σ', H', J.ofTry ok, q⟩
  | cont => obtain ⟨σ', H', J, q⟩ := out; exact ⟨σ', H', J.ofTry ok, q⟩
  | ret u => obtain ⟨v, σ', H', J, r, q⟩ := out; exact ⟨v, σ', H', J.ofTry ok, r, q⟩
end
/-! ### isinstance of what was caught -/
/-- the class D's own facts -/
abbrev ErrC (K : PySem.W.Frag) (D : Addr) : Prop := L2.ExcC K D
def rIsErr (K : PySem.W.Frag) : List V → Hp → VK → Prop := fun xs H Q => ∃ (a D : Addr) (c : V) (cv : Value) (b : Bool), xs = [.ref a, c] ∧ H a = some (ErrK (.ref D) a) ∧ ErrC K D ∧ ClsV c cv ∧ PySem.W.kitOne K (.ref D) cv = some b ∧ Q (.bl b) H
def rIsErrT (K : PySem.W.Frag) : List V → Hp → VK → Prop := fun xs H Q => ∃ (a D tp : Addr) (cs : List V) (us : List Value) (b : Bool), xs = [.ref a, .ref tp] ∧ H a = some (ErrK (.ref D) a) ∧ ErrC K D ∧ H tp = some (.tup cs) ∧ Paired ClsV cs us ∧ PySem.W.kitAny K (.ref D) us = some b ∧ Q (.bl b) H
section
variable {X : Cx}
theorem err_there {pins : List (Addr × Obj)} {σ : L2.St} {H : Hp} {s : Shared} {a D : Addr} (I : Inv X pins σ H s) (h : H a = some (ErrK (.ref D) a)) : ∃ o, PySem.W.InstAt s.heap a o D none := by
  obtain ⟨⟨o, fv, h1, h2, h3⟩, _⟩ := (show ObjOk X.prog X.w H s.heap a (ErrK (.ref D) a) from I.hok a _ h)
  obtain ⟨oc, od, oda, osl⟩ := o
  obtain ⟨g1, g2⟩ := h2
  dsimp only at g1 g2 h3
  subst g1 g2 h3
  exact ⟨_, h1, rfl, rfl, trivial⟩
theorem call_isErr : CallR X (.builtin "isinstance") (rIsErr X.K) := by
  intro pins s σ H xs us Q I r h
  obtain ⟨a, D, c, cv, b, rfl, ha, C, k, e, q⟩ := h
  obtain ⟨u1, u2, rfl, r1, r2⟩ := vals2 r
  cases (show u1 = Value.ref a from r1)
  cases k.eq r2
  obtain ⟨o, J⟩ := err_there I ha
  exact PySem.W.kia_one (PySem.W.handS_kitx_exc C.hg C.hk C.hs C.hd C.ha C.hn C.ht C.hm) I.kIn J e (fun z => nomatch z) fun tk => ⟨.bl b, H, I.tok tk, rfl, q⟩
theorem call_isErrT : CallR X (.builtin "isinstance") (rIsErrT X.K) := by
  intro pins s σ H xs us Q I r h
  obtain ⟨a, D, tp, cs, ws, b, rfl, ha, C, hT, k, e, q⟩ := h
  obtain ⟨u1, u2, rfl, r1, r2⟩ := vals2 r
  cases (show u1 = Value.ref a from r1)
  cases (show u2 = Value.ref tp from r2)
  obtain ⟨o, J⟩ := err_there I ha
  obtain ⟨_, its, rv, ot, h1, h2, m, h3⟩ := (show ObjOk X.prog X.w H s.heap tp (.tup cs) from I.hok tp _ hT)
  cases ClsV.all k rv
  obtain ⟨oc, od, dt, sl⟩ := ot
  simp only at h2 h3
  subst h2 h3
  exact PySem.W.kia_tup (PySem.W.handS_kitx_exc C.hg C.hk C.hs C.hd C.ha C.hn C.ht C.hm) I.kIn J h1 e (fun z => nomatch z) fun tk => ⟨.bl b, H, I.tok tk, rfl, q⟩
end

/-- a def that makes lambdas: its code object known -/
structure DfC (K : PySem.W.Frag) (mg : Str → Option Value) (x : Str) (st : Stmt) (ps : List Str) (c : Addr) : Prop where
  ex : ∃ (f : Addr) (oc : Value) (od an : Option Addr) (kV doc pm ct : Value) (osl : Array (Option Value)), K.lookup f = some ⟨oc, od, .func (PySem.W.fnOf x x (defArgs st) (defBody st) (defScope st) .none kV doc pm an (.ref c) ct), osl⟩ ∧ PySem.W.codeIn K (.ref c) x = true ∧ PySem.W.keepIn K (.ref f) = true ∧ mg x = some (.ref f) ∧
    Binds K (PySem.W.fnOf x x (defArgs st) (defBody st) (defScope st) .none kV doc pm an (.ref c) ct) ps []
structure Txt (K : PySem.W.Frag) (mg : Str → Option Value) (C CF CB CN CT CS c1 c2 : Addr) : Prop where
  cl : Cls K C
  nW : NoAttr K C "_wide"
  nO : NoAttr K C "_order"
  nM : NoAttr K C "_marks"
  nG : NoAttr K C "_given"
  nP : NoAttr K C "_purse"
  gRow : mg "Row" = some (.ref C)
  mkRow : MkI K C "Row.__init__" s_Row___init__ ["self", "wide"]
  m_put : MdD K C "put" "Row.put" s_Row_put
  m_take : Md K C "take" "Row.take" s_Row_take ["self", "one"] []
  m_things : Md K C "things" "Row.things" s_Row_things ["self"] []
  m__check_thing : Md K C "_check_thing" "Row._check_thing" s_Row__check_thing ["self", "one"] []
  m__place_behind : Md K C "_place_behind" "Row._place_behind" s_Row__place_behind ["self", "one"] []
  m__marks_around : Md K C "_marks_around" "Row._marks_around" s_Row__marks_around ["self", "place"] []
  m__stretch_to_spread : Md K C "_stretch_to_spread" "Row._stretch_to_spread" s_Row__stretch_to_spread ["self", "mark"] []
  m__spread_marks : Md K C "_spread_marks" "Row._spread_marks" s_Row__spread_marks ["self", "stretch", "order", "number"] []
  m__lies_in : Md K C "_lies_in" "Row._lies_in" s_Row__lies_in ["self", "thing", "level", "first"] []
  full : ExcC K mg "Full" CF
  d_check_within : Df K mg "check_within" s_check_within ["value", "least", "most"]
  d_is_too_full : Df K mg "is_too_full" s_is_too_full ["level", "many"]
  d_stretch_at : Df K mg "stretch_at" s_stretch_at ["level", "mark"]
  d_spread : Df K mg "spread" s_spread ["level", "start", "many"]
  d_power : Df K mg "power" s_power ["base", "times"]
  g_MOST_LEVEL : Kn mg "MOST_LEVEL" (.int 60)
  g_MOST_SPREAD : Kn mg "MOST_SPREAD" (.int 1024)
  g_LEAST_WIDE : Kn mg "LEAST_WIDE" (.int 4)
  g_MOST_WIDE : Kn mg "MOST_WIDE" (.int 60)
  g_MOST_THINGS : Kn mg "MOST_THINGS" (.int 200)
  g_PAID_FOR_EACH_WIDE : Kn mg "PAID_FOR_EACH_WIDE" (.int 8)
  n_type : mg "type" = none
  n_int : mg "int" = none
  n_len : mg "len" = none
  n_range : mg "range" = none
  n_min : mg "min" = none
  n_max : mg "max" = none
  n_list : mg "list" = none
  n_zip : mg "zip" = none

  bad : ExcC K mg "BadWide" CB
  nothing : ExcC K mg "NoThing" CN
  many : ExcC K mg "TooMany" CT
  m_mark : Md K C "mark" "Row.mark" s_Row_mark ["self", "one"] []
  m_is_ahead : Md K C "is_ahead" "Row.is_ahead" s_Row_is_ahead ["self", "one", "other"] []
  m_purse : Md K C "purse" "Row.purse" s_Row_purse ["self"] []
  g_SeatError : mg "SeatError" = some (.ref CS)
  eB : ErrC K CB
  eN : ErrC K CN
  eT : ErrC K CT
  b_S : PySem.W.subIn K (.ref CS) (.type "BaseException") = some true
  i_S : PySem.W.isClsIn K CS = true
  t_S : PySem.W.typeIn K (.ref CS) = some (.type "type")
  s_BS : PySem.W.subIn K (.ref CB) (.ref CS) = some true
  s_NS : PySem.W.subIn K (.ref CN) (.ref CS) = some true
  s_TS : PySem.W.subIn K (.ref CT) (.ref CS) = some true
  v_B : PySem.W.subIn K (.ref CB) (.type "ValueError") = some true
  v_N : PySem.W.subIn K (.ref CN) (.type "ValueError") = some true
  v_T : PySem.W.subIn K (.ref CT) (.type "ValueError") = some true
  s_BN : PySem.W.subIn K (.ref CB) (.ref CN) = some false
  s_BT : PySem.W.subIn K (.ref CB) (.ref CT) = some false
  s_BF : PySem.W.subIn K (.ref CB) (.ref CF) = some false
  s_NB : PySem.W.subIn K (.ref CN) (.ref CB) = some false
  s_NT : PySem.W.subIn K (.ref CN) (.ref CT) = some false
  s_NF : PySem.W.subIn K (.ref CN) (.ref CF) = some false
  s_TB : PySem.W.subIn K (.ref CT) (.ref CB) = some false
  s_TN : PySem.W.subIn K (.ref CT) (.ref CN) = some false
  s_TF : PySem.W.subIn K (.ref CT) (.ref CF) = some false
  d__law_next : Df K mg "_law_next" s__law_next ["_law_state"]
  d__law_place : Df K mg "_law_place" s__law_place ["_law_state", "_law_m"]
  d__law_said : Df K mg "_law_said" s__law_said ["_law_worker"]
  d__law_odd : Df K mg "_law_odd" s__law_odd ["_law_n"]
  d__law_numbers_refused : DfC K mg "_law_numbers_refused" s__law_numbers_refused ["_law_n"] c1
  d__law_things_refused : DfC K mg "_law_things_refused" s__law_things_refused ["_law_row", "_law_line", "_law_odd_here"] c2
  n_isinstance : mg "isinstance" = none
  n_ValueError : mg "ValueError" = none
/-! ### the mathematics of a putting -/
theorem Good.ne {r : R} (G : Good r) {x : Int} (h : x ∈ r.ord) : ¬ x = (r.given : Int) := fun e => by
  have := G.num x h
  omega
theorem mem_ins {r : R} {p : Nat} {x : Int} : x ∈ ordIns r p ↔ x = (r.given : Int) ∨ x ∈ r.ord := by
  unfold ordIns
  rw [List.mem_append, List.mem_append, List.mem_singleton]
  have h : x ∈ r.ord ↔ x ∈ r.ord.take p ∨ x ∈ r.ord.drop p := by
    rw [← List.mem_append, List.take_append_drop]
  rw [h]
  constructor
  · rintro ((a | a) | a)
    · exact .inr (.inl a)
    · exact .inl a
    · exact .inr (.inr a)
  · rintro (a | a | a)
    · exact .inl (.inr a)
    · exact .inl (.inl a)
    · exact .inr a
theorem ins_len {r : R} {p : Nat} : (ordIns r p).length = r.ord.length + 1 := by
  unfold ordIns
  have h : (r.ord.take p).length + (r.ord.drop p).length = r.ord.length := by rw [← List.length_append, List.take_append_drop]
  rw [List.length_append, List.length_append, List.length_singleton]
  omega
theorem filter_same {r : R} (G : Good r) {L : Nat} {f : Int} {xs : List Int} (h : ∀ x ∈ xs, x ∈ r.ord) : xs.filter (fun x => decide (x = (r.given : Int)) || lies r L f x) = xs.filter (lies r L f) := by
  apply List.filter_congr
  intro x hx
  rw [decide_eq_false (G.ne (h x hx)), Bool.false_or]
theorem inside_split {r : R} (G : Good r) {p L : Nat} {f : Int} : inside r p L f = (r.ord.take p).filter (lies r L f) ++ [(r.given : Int)] ++ (r.ord.drop p).filter (lies r L f) := by
  unfold inside ordIns
  rw [List.filter_append, List.filter_append, filter_same G fun x hx => List.mem_of_mem_take hx, filter_same G fun x hx => List.mem_of_mem_drop hx]
  congr 2
  simp
theorem inside_len {r : R} (G : Good r) {p L : Nat} {f : Int} : (inside r p L f).length = (r.ord.filter (lies r L f)).length + 1 := by
  rw [inside_split G, List.length_append, List.length_append, List.length_singleton]
  have h : (r.ord.filter (lies r L f)).length = ((r.ord.take p).filter (lies r L f)).length + ((r.ord.drop p).filter (lies r L f)).length := by
    rw [← List.length_append, ← List.filter_append, List.take_append_drop]
  omega
theorem pow_nat (a l : Nat) : ((a : Int) ^ l) = ((a ^ l : Nat) : Int) := by push_cast; rfl
theorem fits_le {r : R} {m : Int} {L : Nat} (h : fits r m L = true) : cnt r m L + 1 ≤ 2 ^ L := by
  unfold fits at h
  have h1 : ¬ (4 : Int) ^ L < ((cnt r m L : Int) + 1) * 3 ^ L := by simpa using h
  have e4 : (4 : Int) ^ L = ((4 ^ L : Nat) : Int) := pow_nat 4 L
  have e3 : (3 : Int) ^ L = ((3 ^ L : Nat) : Int) := pow_nat 3 L
  rw [e4, e3] at h1
  have h2 : (cnt r m L + 1) * 3 ^ L ≤ 4 ^ L := by
    have : ((cnt r m L : Int) + 1) * ((3 ^ L : Nat) : Int) = (((cnt r m L + 1) * 3 ^ L : Nat) : Int) := by push_cast; rfl
    rw [this] at h1
    omega
  have h3 : (4 : Nat) ^ L = 2 ^ L * 2 ^ L := by rw [← Nat.mul_pow]
  have h4 : (2 : Nat) ^ L ≤ 3 ^ L := Nat.pow_le_pow_left (by decide) L
  have hp : 0 < (2 : Nat) ^ L := Nat.pow_pos (by decide)
  have h5 : (cnt r m L + 1) * 2 ^ L ≤ 2 ^ L * 2 ^ L := Nat.le_trans (Nat.mul_le_mul_left _ h4) (h3 ▸ h2)
  exact Nat.le_of_mul_le_mul_right h5 hp
theorem findL_fits {r : R} {m : Int} {L : Nat} (h : findL r m = some L) : fits r m L = true ∧ L ≤ r.wide ∧ ∀ j, j < L → fits r m j = false := by
  unfold findL at h
  rw [List.find?_range_eq_some] at h
  obtain ⟨h1, h2, h3⟩ := h
  have := List.mem_range.mp h2
  exact ⟨h1, by omega, fun j hj => by simpa using h3 j hj⟩
structure MarkedOk (r : R) (marked : List (Int × Int)) : Prop where
  keys : ∀ q ∈ marked, q.1 = (r.given : Int) ∨ q.1 ∈ r.ord
  has : (r.given : Int) ∈ marked.map (·.1)
  len : marked.length ≤ 201
theorem marks_ok {r : R} (G : Good r) {p : Nat} {st : Option (Nat × Int)} {marked : List (Int × Int)} (h : marksFor r p = some (st, marked)) : MarkedOk r marked := by
  unfold marksFor at h
  split at h
  · cases h
    refine ⟨fun q hq => ?_, ?_, by show 1 ≤ 201; decide⟩
    · rw [List.mem_singleton.mp hq]; exact .inl rfl
    · exact List.mem_singleton.mpr rfl
  · split at h
    · cases h
    · rename_i L hL
      cases h
      have e : (((inside r p L (baseM (max (aheadM r p) 0) L)).zip (spreadL L (baseM (max (aheadM r p) 0) L) (inside r p L (baseM (max (aheadM r p) 0) L)).length)).map (·.1)) = inside r p L (baseM (max (aheadM r p) 0) L) := by
        apply List.map_fst_zip
        unfold spreadL
        rw [List.length_map, List.length_range]
        exact Nat.le_refl _
      refine ⟨fun q hq => ?_, ?_, ?_⟩
      · have h1 : q.1 ∈ inside r p L (baseM (max (aheadM r p) 0) L) := by rw [← e]; exact List.mem_map_of_mem hq
        exact mem_ins.mp (List.mem_filter.mp h1).1
      · rw [e]
        unfold inside
        rw [List.mem_filter]
        exact ⟨mem_ins.mpr (.inl rfl), by simp⟩
      · rw [List.length_zip]
        have h1 : (inside r p L (baseM (max (aheadM r p) 0) L)).length ≤ (ordIns r p).length := List.length_filter_le ..
        rw [ins_len] at h1
        have := G.len
        omega
theorem getD_mem {xs : List Int} {i : Nat} (h : i < xs.length) : xs.getD i 0 ∈ xs := by
  rw [List.getD_eq_getElem?_getD, List.getElem?_eq_getElem h]
  exact List.getElem_mem h
theorem ahead_lt {r : R} (G : Good r) {n : Nat} (h : n ≤ r.ord.length) : aheadM r n < 2 ^ r.wide := by
  cases n with
  | zero =>
    show (-1 : Int) < 2 ^ r.wide
    have := two_pow_pos r.wide
    omega
  | succ n => exact G.hi _ (getD_mem (by omega))
theorem baseM_lo {m : Int} {l : Nat} (h : 0 ≤ m) : 0 ≤ baseM m l := Int.mul_nonneg (Int.ediv_nonneg h (Int.le_of_lt (two_pow_pos l))) (Int.le_of_lt (two_pow_pos l))
theorem baseM_le {m : Int} {l : Nat} : baseM m l ≤ m := Int.ediv_mul_le _ (Int.ne_of_gt (two_pow_pos l))
theorem baseM_hi {m : Int} {l : Nat} : m < baseM m l + 2 ^ l := by
  have := Int.lt_ediv_add_one_mul_self m (two_pow_pos l)
  rw [Int.add_mul, Int.one_mul] at this
  exact this
theorem putK_old {kvs : List (Key × V)} {k : Key} {v u : V} (h : valV kvs k = some u) : putK kvs k v = kvs.map (fun kv => if kv.1 = k then (kv.1, v) else kv) := by
  unfold putK
  rw [valV_any, h]
  rfl
theorem putK_keys {kvs : List (Key × V)} {k : Key} {v u : V} (h : valV kvs k = some u) : (putK kvs k v).map (·.1) = kvs.map (·.1) := by
  rw [putK_old h, List.map_map]
  apply List.map_congr_left
  intro q _
  show (if q.1 = k then (q.1, v) else q).1 = q.1
  split <;> rfl
theorem putK_nd {kvs : List (Key × V)} {k : Key} {v : V} (h : (kvs.map (·.1)).Nodup) : ((putK kvs k v).map (·.1)).Nodup := by
  cases e : valV kvs k with
  | none => exact nd_putK v h e
  | some u => rw [putK_keys e]; exact h
theorem putK_len {kvs : List (Key × V)} {k : Key} {v u : V} (h : valV kvs k = some u) : (putK kvs k v).length = kvs.length := by
  rw [putK_old h, List.length_map]
/-- the dict while the new marks are stored -/
structure DMid (r : R) (qs : List (Int × Int)) (kvs : List (Key × V)) : Prop where
  nd : (kvs.map (·.1)).Nodup
  le : kvs.length ≤ r.given + 1
  le0 : valV kvs (.inl (r.given : Int)) = none → kvs.length ≤ r.given
  get : ∀ x : Int, valV kvs (.inl x) = if x ∈ r.ord ∨ (x = (r.given : Int) ∧ (r.given : Int) ∈ qs.map (·.1)) then some (.int (mkAll r.mrk qs x)) else none
theorem mkAll_snoc (f : Int → Int) (qs : List (Int × Int)) (q : Int × Int) : mkAll f (qs ++ [q]) = setM (mkAll f qs) q := by
  unfold mkAll
  rw [List.foldl_append]
  rfl
theorem DMid.start {r : R} {kvs : List (Key × V)} (D : DictIs kvs r.ord r.mrk) (h : kvs.length ≤ r.given) : DMid r [] kvs := by
  refine ⟨D.nd, by omega, fun _ => h, fun x => ?_⟩
  rw [D.get]
  by_cases e : x ∈ r.ord
  · rw [if_pos e, if_pos (.inl e)]; rfl
  · rw [if_neg e, if_neg]
    rintro (z | ⟨_, z⟩)
    · exact e z
    · cases z
theorem DMid.step {r : R} {qs : List (Int × Int)} {kvs : List (Key × V)} {q : Int × Int} (G : Good r) (D : DMid r qs kvs) (hq : q.1 = (r.given : Int) ∨ q.1 ∈ r.ord) : DMid r (qs ++ [q]) (putK kvs (.inl q.1) (V.int q.2)) := by
  have hg : ∀ x : Int, valV (putK kvs (.inl q.1 : Key) (V.int q.2)) (.inl x) = if x = q.1 then some (V.int q.2) else valV kvs (.inl x) := fun x => by
    rw [valV_put]
    by_cases e : x = q.1
    · rw [if_pos e, if_pos (by rw [e])]
    · rw [if_neg e, if_neg (fun z => e (Sum.inl.inj z))]
  refine ⟨putK_nd D.nd, ?_, fun h => ?_, fun x => ?_⟩
  · cases e : valV kvs (.inl q.1 : Key) with
    | some u => rw [putK_len e]; exact D.le
    | none =>
      have : q.1 = (r.given : Int) := by
        rcases hq with z | z
        · exact z
        · rw [D.get, if_pos (.inl z)] at e
          cases e
      rw [this] at e ⊢
      rw [putK_new _ e, List.length_append]
      have := D.le0 e
      show kvs.length + 1 ≤ _
      omega
  · rw [hg] at h
    by_cases e : (r.given : Int) = q.1
    · rw [if_pos e] at h
      cases h
    · rw [if_neg e] at h
      have hm : q.1 ∈ r.ord := by
        rcases hq with z | z
        · exact absurd z.symm e
        · exact z
      have e2 : valV kvs (.inl q.1 : Key) = some (.int (mkAll r.mrk qs q.1)) := by rw [D.get, if_pos (.inl hm)]
      rw [putK_len e2]
      exact D.le0 h
  · rw [hg, mkAll_snoc]
    by_cases e : x = q.1
    · have e2 : setM (mkAll r.mrk qs) q x = q.2 := if_pos e
      rw [if_pos e, e2, if_pos]
      rcases hq with z | z
      · refine .inr ⟨by rw [e, z], ?_⟩
        rw [List.map_append, ← z]
        exact List.mem_append_right _ (List.mem_singleton.mpr rfl)
      · exact .inl (by rw [e]; exact z)
    · have e2 : setM (mkAll r.mrk qs) q x = mkAll r.mrk qs x := if_neg e
      rw [if_neg e, D.get, e2]
      have e3 : (x ∈ r.ord ∨ x = (r.given : Int) ∧ (r.given : Int) ∈ (qs ++ [q]).map (·.1)) ↔ (x ∈ r.ord ∨ x = (r.given : Int) ∧ (r.given : Int) ∈ qs.map (·.1)) := by
        rw [List.map_append, List.mem_append]
        constructor
        · rintro (a | ⟨a, b | b⟩)
          · exact .inl a
          · exact .inr ⟨a, b⟩
          · exact absurd (a.trans (List.mem_singleton.mp b)) e
        · rintro (a | ⟨a, b⟩)
          · exact .inl a
          · exact .inr ⟨a, .inl b⟩
      simp only [e3]
theorem DMid.done {r : R} {n : Nat} {marked : List (Int × Int)} {kvs : List (Key × V)} (M : MarkedOk r marked) (D : DMid r marked kvs) : DictIs kvs (putR r n marked).ord (putR r n marked).mrk := by
  refine ⟨D.nd, fun x => ?_⟩
  rw [D.get]
  show _ = if x ∈ ordIns r n then some (V.int (mkAll r.mrk marked x)) else none
  have e : (x ∈ r.ord ∨ x = (r.given : Int) ∧ (r.given : Int) ∈ marked.map (·.1)) ↔ x ∈ ordIns r n := by
    rw [mem_ins]
    constructor
    · rintro (a | ⟨a, _⟩)
      · exact .inr a
      · exact .inl a
    · rintro (a | a)
      · exact .inr ⟨a, M.has⟩
      · exact .inl a
  simp only [e]

/-! ### a putting keeps what holds of every row -/
theorem mkAll_not {qs : List (Int × Int)} {f : Int → Int} {x : Int} (h : ¬ x ∈ qs.map (·.1)) : mkAll f qs x = f x := by
  induction qs generalizing f with
  | nil => rfl
  | cons q r ih =>
    rw [List.map_cons, List.mem_cons, not_or] at h
    show mkAll (setM f q) r x = f x
    rw [ih h.2]
    exact if_neg h.1
theorem mkAll_at {qs : List (Int × Int)} {f : Int → Int} (hn : (qs.map (·.1)).Nodup) {i : Nat} {q : Int × Int} (h : qs[i]? = some q) : mkAll f qs q.1 = q.2 := by
  induction qs generalizing f i with
  | nil => simp at h
  | cons u r ih =>
    rw [List.map_cons, List.nodup_cons] at hn
    show mkAll (setM f u) r q.1 = q.2
    cases i with
    | zero =>
      have e : u = q := Option.some.inj h
      subst e
      rw [mkAll_not hn.1]
      exact if_pos rfl
    | succ i => exact ih hn.2 h
theorem ins_nd {r : R} (G : Good r) {n : Nat} : (ordIns r n).Nodup := by
  unfold ordIns
  have h := G.nd
  rw [← List.take_append_drop n r.ord, List.nodup_append] at h
  obtain ⟨h1, h2, h3⟩ := h
  have hg : ∀ x ∈ r.ord, x ≠ (r.given : Int) := fun x hx => G.ne hx
  rw [List.nodup_append, List.nodup_append]
  refine ⟨⟨h1, by simp, fun a ha b hb => ?_⟩, h2, fun a ha b hb => ?_⟩
  · rw [List.mem_singleton.mp hb]
    exact hg a (List.mem_of_mem_take ha)
  · rcases List.mem_append.mp ha with ha | ha
    · exact h3 a ha b hb
    · rw [List.mem_singleton.mp ha]
      exact fun e => hg b (List.mem_of_mem_drop hb) e.symm
theorem take_le_ahead {r : R} (G : Good r) {n : Nat} {x : Int} (h : x ∈ r.ord.take n) (hn : n ≤ r.ord.length) : r.mrk x ≤ aheadM r n := by
  obtain ⟨i, hi⟩ := List.mem_iff_getElem?.mp h
  have hil : i < (r.ord.take n).length := (List.getElem?_eq_some_iff.mp hi).1
  rw [List.length_take] at hil
  cases n with
  | zero => omega
  | succ k =>
    have e1 : r.ord[i]? = some x := by
      rw [List.getElem?_take] at hi
      split at hi
      · exact hi
      · cases hi
    have hk : k < r.ord.length := by omega
    have e2 : r.ord.getD k 0 = r.ord[k] := by rw [List.getD_eq_getElem?_getD, List.getElem?_eq_getElem hk]; rfl
    show r.mrk x ≤ r.mrk (r.ord.getD k 0)
    rw [e2]
    have hil2 : i < r.ord.length := by omega
    have e3 : r.ord[i] = x := by
      rw [List.getElem?_eq_getElem hil2] at e1
      exact Option.some.inj e1
    by_cases hik : i = k
    · subst hik
      rw [e3]
      exact Int.le_refl _
    · have := List.pairwise_iff_getElem.mp G.up i k hil2 hk (by omega)
      rw [e3] at this
      exact Int.le_of_lt this
theorem behind_le_drop {r : R} (G : Good r) {n : Nat} {x : Int} (h : x ∈ r.ord.drop n) : behindM r n ≤ r.mrk x := by
  obtain ⟨i, hi⟩ := List.mem_iff_getElem?.mp h
  rw [List.getElem?_drop] at hi
  obtain ⟨hil, e3⟩ := List.getElem?_eq_some_iff.mp hi
  have hn : n < r.ord.length := by omega
  unfold behindM
  rw [if_pos hn]
  have e2 : r.ord.getD n 0 = r.ord[n] := by rw [List.getD_eq_getElem?_getD, List.getElem?_eq_getElem hn]; rfl
  rw [e2]
  by_cases hik : i = 0
  · subst hik
    simp only [Nat.add_zero] at e3
    rw [e3]
    exact Int.le_refl _
  · have := List.pairwise_iff_getElem.mp G.up n (n + i) hn hil (by omega)
    rw [e3] at this
    exact Int.le_of_lt this
theorem ahead_lt_behind {r : R} (G : Good r) {n : Nat} (hn : n ≤ r.ord.length) : aheadM r n < behindM r n := by
  by_cases h : n < r.ord.length
  · have hb : behindM r n = r.mrk r.ord[n] := by
      unfold behindM
      rw [if_pos h, List.getD_eq_getElem?_getD, List.getElem?_eq_getElem h]; rfl
    cases n with
    | zero =>
      have := G.lo _ (List.getElem_mem h)
      rw [hb]
      show (-1 : Int) < _
      omega
    | succ k =>
      have hk : k < r.ord.length := by omega
      have e2 : r.ord.getD k 0 = r.ord[k] := by rw [List.getD_eq_getElem?_getD, List.getElem?_eq_getElem hk]; rfl
      rw [hb]
      show r.mrk (r.ord.getD k 0) < _
      rw [e2]
      exact List.pairwise_iff_getElem.mp G.up k (k + 1) hk h (by omega)
  · have hb : behindM r n = 2 ^ r.wide := if_neg h
    rw [hb]
    exact ahead_lt G hn
theorem behind_hi {r : R} (G : Good r) {n : Nat} : behindM r n ≤ 2 ^ r.wide := by
  unfold behindM
  split
  · rename_i h
    exact Int.le_of_lt (G.hi _ (getD_mem h))
  · exact Int.le_refl _
theorem ahead_lo {r : R} (G : Good r) {n : Nat} (hn : n ≤ r.ord.length) : -1 ≤ aheadM r n := by
  cases n with
  | zero => exact Int.le_refl _
  | succ k =>
    have := G.lo _ (getD_mem (xs := r.ord) (i := k) (by omega))
    show -1 ≤ r.mrk (r.ord.getD k 0)
    omega
/-- the parts that hang on the marks alone -/
theorem good_of {r : R} (G : Good r) {n : Nat} {marked : List (Int × Int)} (h200 : r.ord.length < 200) (hg : r.given < 100000)
    (lo : ∀ x ∈ ordIns r n, 0 ≤ mkAll r.mrk marked x) (hi : ∀ x ∈ ordIns r n, mkAll r.mrk marked x < 2 ^ r.wide) (up : (ordIns r n).Pairwise fun x y => mkAll r.mrk marked x < mkAll r.mrk marked y) : Good (putR r n marked) := by
  refine ⟨G.w4, G.w60, ins_nd G, fun x hx => ?_, ?_, lo, hi, up, by show r.given + 1 ≤ 100000; omega⟩
  · rcases mem_ins.mp hx with e | e
    · rw [e]
      show (0 : Int) ≤ r.given ∧ (r.given : Int) < ((r.given + 1 : Nat) : Int)
      omega
    · have := G.num x e
      show 0 ≤ x ∧ x < ((r.given + 1 : Nat) : Int)
      omega
  · show (ordIns r n).length ≤ 200
    rw [ins_len]
    omega
/-- pairs of the new order: both old; the old one ahead; the old one behind -/
theorem ins_pairs {r : R} {n : Nat} {T : Int → Int → Prop} (h1 : r.ord.Pairwise T) (h2 : ∀ x ∈ r.ord.take n, T x r.given) (h3 : ∀ y ∈ r.ord.drop n, T r.given y) : (ordIns r n).Pairwise T := by
  unfold ordIns
  rw [← List.take_append_drop n r.ord, List.pairwise_append] at h1
  obtain ⟨a1, a2, a3⟩ := h1
  rw [List.pairwise_append, List.pairwise_append]
  refine ⟨⟨a1, List.pairwise_singleton .., fun x hx y hy => ?_⟩, a2, fun x hx y hy => ?_⟩
  · rw [List.mem_singleton.mp hy]
    exact h2 x hx
  · rcases List.mem_append.mp hx with hx | hx
    · exact a3 x hx y hy
    · rw [List.mem_singleton.mp hx]
      exact h3 y hy
theorem good_mid {r : R} (G : Good r) {n : Nat} (hn : n ≤ r.ord.length) (h200 : r.ord.length < 200) (hg : r.given < 100000) (hgap : 2 ≤ behindM r n - aheadM r n) : Good (putR r n [((r.given : Int), (aheadM r n + behindM r n) / 2)]) := by
  have a1 := ahead_lo G hn
  have a2 := behind_hi G (n := n)
  have e0 : ∀ x ∈ r.ord, mkAll r.mrk [((r.given : Int), (aheadM r n + behindM r n) / 2)] x = r.mrk x := fun x hx => if_neg (G.ne hx)
  have e1 : mkAll r.mrk [((r.given : Int), (aheadM r n + behindM r n) / 2)] r.given = (aheadM r n + behindM r n) / 2 := if_pos rfl
  refine good_of G h200 hg (fun x hx => ?_) (fun x hx => ?_) (ins_pairs ?_ (fun x hx => ?_) fun y hy => ?_)
  · rcases mem_ins.mp hx with e | e
    · rw [e, e1]; omega
    · rw [e0 x e]; exact G.lo x e
  · rcases mem_ins.mp hx with e | e
    · rw [e, e1]; omega
    · rw [e0 x e]; exact G.hi x e
  · refine List.Pairwise.imp_of_mem ?_ G.up
    intro x y hx hy hxy
    rw [e0 x hx, e0 y hy]
    exact hxy
  · rw [e0 x (List.mem_of_mem_take hx), e1]
    have := take_le_ahead G hx hn
    omega
  · rw [e0 y (List.mem_of_mem_drop hy), e1]
    have := behind_le_drop G hy
    omega
theorem spread_get {l m : Nat} {s : Int} {i : Nat} (h : i < m) : (spreadL l s m)[i]? = some (s + 2 ^ l * (i : Int) / (m : Int)) := by
  unfold spreadL
  rw [List.getElem?_map, List.getElem?_range h]
  rfl
theorem spread_length (l : Nat) (s : Int) (m : Nat) : (spreadL l s m).length = m := by
  unfold spreadL
  rw [List.length_map, List.length_range]
theorem two_pow_cast (l : Nat) : ((2 : Int) ^ l) = ((2 ^ l : Nat) : Int) := by push_cast; rfl
theorem part_lt {l m i : Nat} (h : i < m) : 2 ^ l * (i : Int) / (m : Int) < 2 ^ l := by
  apply Int.ediv_lt_of_lt_mul (by omega)
  exact Int.mul_lt_mul_of_pos_left (by omega) (two_pow_pos l)
theorem part_nn (l m i : Nat) : 0 ≤ 2 ^ l * (i : Int) / (m : Int) := Int.ediv_nonneg (Int.mul_nonneg (Int.le_of_lt (two_pow_pos l)) (by omega)) (by omega)
theorem part_mono {l m i j : Nat} (h : 0 < m) (hm : m ≤ 2 ^ l) (hij : i < j) : 2 ^ l * (i : Int) / (m : Int) < 2 ^ l * (j : Int) / (m : Int) := by
  have hp := two_pow_pos l
  have h0 : (2 : Int) ^ l * ((i : Int) + 1) ≤ 2 ^ l * (j : Int) := Int.mul_le_mul_of_nonneg_left (by omega) (Int.le_of_lt hp)
  have h1 : (2 : Int) ^ l * (i : Int) + (m : Int) * 1 ≤ 2 ^ l * (j : Int) := by
    rw [Int.mul_add, Int.mul_one] at h0
    have e := two_pow_cast l
    omega
  have h2 : (2 ^ l * (i : Int) + (m : Int) * 1) / (m : Int) = 2 ^ l * (i : Int) / (m : Int) + 1 := Int.add_mul_ediv_left _ _ (by omega)
  have h3 := Int.ediv_le_ediv (show (0 : Int) < m by omega) h1
  omega
/-- what the spreading does to the marks of an order's things -/
structure Spreads (r : R) (n L : Nat) (f : Int) (g : Int → Int) : Prop where
  at_ : ∀ (i : Nat) (x : Int), (inside r n L f)[i]? = some x → g x = f + 2 ^ L * (i : Int) / ((inside r n L f).length : Int)
  off : ∀ x, ¬ x ∈ inside r n L f → g x = r.mrk x
theorem spreads_of {r : R} (G : Good r) {n L : Nat} {f : Int} : Spreads r n L f (mkAll r.mrk ((inside r n L f).zip (spreadL L f (inside r n L f).length))) := by
  have e : ((inside r n L f).zip (spreadL L f (inside r n L f).length)).map (·.1) = inside r n L f := List.map_fst_zip (by rw [spread_length]; exact Nat.le_refl _)
  have nd : (inside r n L f).Nodup := (ins_nd G).filter _
  refine ⟨fun i x hx => ?_, fun x hx => mkAll_not (by rw [e]; exact hx)⟩
  have hi := (List.getElem?_eq_some_iff.mp hx).1
  have hz : ((inside r n L f).zip (spreadL L f (inside r n L f).length))[i]? = some (x, f + 2 ^ L * (i : Int) / ((inside r n L f).length : Int)) := List.getElem?_zip_eq_some.mpr ⟨hx, spread_get hi⟩
  exact mkAll_at (by rw [e]; exact nd) hz
theorem lies_iff {r : R} {L : Nat} {f x : Int} : lies r L f x = true ↔ f ≤ r.mrk x ∧ r.mrk x < f + 2 ^ L := by
  unfold lies
  rw [Bool.and_eq_true, decide_eq_true_eq, decide_eq_true_eq]
theorem inside_iff {r : R} {n L : Nat} {f x : Int} : x ∈ inside r n L f ↔ x = (r.given : Int) ∨ (x ∈ r.ord ∧ f ≤ r.mrk x ∧ r.mrk x < f + 2 ^ L) := by
  unfold inside
  rw [List.mem_filter, mem_ins, Bool.or_eq_true, decide_eq_true_eq, lies_iff]
  constructor
  · rintro ⟨a, b⟩
    rcases a with a | a
    · exact .inl a
    · rcases b with b | b
      · exact .inl b
      · exact .inr ⟨a, b⟩
  · rintro (a | ⟨a, b⟩)
    · exact ⟨.inl a, .inl a⟩
    · exact ⟨.inr a, .inr b⟩
theorem baseM_top {m : Int} {L w : Nat} (h0 : 0 ≤ m) (h1 : m < 2 ^ w) (hL : L ≤ w) : baseM m L + 2 ^ L ≤ 2 ^ w := by
  have hp := two_pow_pos L
  have e : (2 : Int) ^ w = 2 ^ (w - L) * 2 ^ L := by rw [← Int.pow_add, Nat.sub_add_cancel hL]
  have h2 : m / 2 ^ L < 2 ^ (w - L) := by
    apply Int.ediv_lt_of_lt_mul hp
    rw [← e]
    exact h1
  have h3 : (m / 2 ^ L + 1) * 2 ^ L ≤ 2 ^ (w - L) * 2 ^ L := Int.mul_le_mul_of_nonneg_right (by omega) (Int.le_of_lt hp)
  rw [Int.add_mul, Int.one_mul, ← e] at h3
  exact h3
theorem spread_in {r : R} {n L : Nat} {f : Int} {g : Int → Int} (S : Spreads r n L f g) {x : Int} (h : x ∈ inside r n L f) : f ≤ g x ∧ g x < f + 2 ^ L := by
  obtain ⟨i, hi⟩ := List.mem_iff_getElem?.mp h
  have hl := (List.getElem?_eq_some_iff.mp hi).1
  rw [S.at_ i x hi]
  have h1 := part_nn L (inside r n L f).length i
  have h2 := part_lt (l := L) hl
  omega
theorem good_spread {r : R} (G : Good r) {n L : Nat} (hn : n ≤ r.ord.length) (h200 : r.ord.length < 200) (hg : r.given < 100000) (hL : L ≤ r.wide) (hfit : (inside r n L (baseM (max (aheadM r n) 0) L)).length ≤ 2 ^ L) :
    Good (putR r n ((inside r n L (baseM (max (aheadM r n) 0) L)).zip (spreadL L (baseM (max (aheadM r n) 0) L) (inside r n L (baseM (max (aheadM r n) 0) L)).length))) := by
  have S := spreads_of G (n := n) (L := L) (f := baseM (max (aheadM r n) 0) L)
  have hm0 : (0 : Int) ≤ max (aheadM r n) 0 := by omega
  have hm1 : max (aheadM r n) 0 < 2 ^ r.wide := by
    have := two_pow_pos r.wide
    have := ahead_lt G hn
    omega
  have f0 := baseM_lo (l := L) hm0
  have f1 := baseM_le (m := max (aheadM r n) 0) (l := L)
  have f2 := baseM_hi (m := max (aheadM r n) 0) (l := L)
  have f3 := baseM_top hm0 hm1 hL
  generalize hf : baseM (max (aheadM r n) 0) L = f at *
  generalize hgm : mkAll r.mrk ((inside r n L f).zip (spreadL L f (inside r n L f).length)) = g at *
  -- all in bounds
  have bounds : ∀ x ∈ ordIns r n, 0 ≤ g x ∧ g x < 2 ^ r.wide := fun x hx => by
    by_cases hi : x ∈ inside r n L f
    · have := spread_in S hi
      omega
    · rw [S.off x hi]
      rcases mem_ins.mp hx with e | e
      · exact absurd (inside_iff.mpr (.inl e)) hi
      · exact ⟨G.lo x e, G.hi x e⟩
  refine good_of G h200 hg (fun x hx => by rw [hgm]; exact (bounds x hx).1) (fun x hx => by rw [hgm]; exact (bounds x hx).2) ?_
  rw [hgm]
  -- within the stretch they rise
  have up1 : (inside r n L f).Pairwise fun x y => g x < g y := by
    rw [List.pairwise_iff_getElem]
    intro i j hi hj hij
    rw [S.at_ i _ (List.getElem?_eq_getElem hi), S.at_ j _ (List.getElem?_eq_getElem hj)]
    have := part_mono (l := L) (m := (inside r n L f).length) (i := i) (j := j) (by omega) hfit hij
    omega
  have up2 : (ordIns r n).Pairwise fun x y => x ∈ inside r n L f → y ∈ inside r n L f → g x < g y := by
    have h := List.pairwise_filter.mp (show ((ordIns r n).filter fun x => decide (x = (r.given : Int)) || lies r L f x).Pairwise (fun x y => g x < g y) from up1)
    refine h.imp fun {x y} q hx hy => q ?_ ?_
    · exact (List.mem_filter.mp (show x ∈ (ordIns r n).filter fun x => decide (x = (r.given : Int)) || lies r L f x from hx)).2
    · exact (List.mem_filter.mp (show y ∈ (ordIns r n).filter fun x => decide (x = (r.given : Int)) || lies r L f x from hy)).2
  -- how the old ones stand
  have up3 : (ordIns r n).Pairwise fun x y => (x ∈ r.ord ∧ y ∈ r.ord ∧ r.mrk x < r.mrk y) ∨ (y = (r.given : Int) ∧ (¬ x ∈ inside r n L f → r.mrk x < f)) ∨ (x = (r.given : Int) ∧ (¬ y ∈ inside r n L f → f + 2 ^ L ≤ r.mrk y)) := by
    refine ins_pairs ?_ (fun x hx => .inr (.inl ⟨rfl, fun hno => ?_⟩)) fun y hy => .inr (.inr ⟨rfl, fun hno => ?_⟩)
    · refine List.Pairwise.imp_of_mem ?_ G.up
      intro x y hx hy q
      exact .inl ⟨hx, hy, q⟩
    · have h1 := take_le_ahead G hx hn
      have hxo := List.mem_of_mem_take hx
      have h2 : ¬ (f ≤ r.mrk x ∧ r.mrk x < f + 2 ^ L) := fun z => hno (inside_iff.mpr (.inr ⟨hxo, z⟩))
      have h3 := G.lo x hxo
      omega
    · have h1 := behind_le_drop G hy
      have hyo := List.mem_of_mem_drop hy
      have h2 : ¬ (f ≤ r.mrk y ∧ r.mrk y < f + 2 ^ L) := fun z => hno (inside_iff.mpr (.inr ⟨hyo, z⟩))
      have h3 := G.lo y hyo
      have h4 := ahead_lt_behind G hn
      omega
  refine (up2.and up3).imp fun {x y} ⟨q2, q3⟩ => ?_
  by_cases hx : x ∈ inside r n L f
  · by_cases hy : y ∈ inside r n L f
    · exact q2 hx hy
    · have h1 := spread_in S hx
      rw [S.off y hy]
      rcases q3 with ⟨a, b, c⟩ | ⟨a, b⟩ | ⟨a, b⟩
      · have hx2 : f ≤ r.mrk x := by
          rcases inside_iff.mp hx with z | z
          · exact absurd z (G.ne a)
          · exact z.2.1
        have hy2 : ¬ (f ≤ r.mrk y ∧ r.mrk y < f + 2 ^ L) := fun z => hy (inside_iff.mpr (.inr ⟨b, z⟩))
        omega
      · exact absurd (inside_iff.mpr (.inl a)) hy
      · have := b hy
        omega
  · rw [S.off x hx]
    by_cases hy : y ∈ inside r n L f
    · have h1 := spread_in S hy
      rcases q3 with ⟨a, b, c⟩ | ⟨a, b⟩ | ⟨a, b⟩
      · have hy2 : r.mrk y < f + 2 ^ L := by
          rcases inside_iff.mp hy with z | z
          · exact absurd z (G.ne b)
          · exact z.2.2
        have hx2 : ¬ (f ≤ r.mrk x ∧ r.mrk x < f + 2 ^ L) := fun z => hx (inside_iff.mpr (.inr ⟨a, z⟩))
        omega
      · have := b hx
        omega
      · exact absurd (inside_iff.mpr (.inl a)) hx
    · rw [S.off y hy]
      rcases q3 with ⟨a, b, c⟩ | ⟨a, b⟩ | ⟨a, b⟩
      · exact c
      · exact absurd (inside_iff.mpr (.inl a)) hy
      · exact absurd (inside_iff.mpr (.inl a)) hx
theorem good_put {r : R} (G : Good r) {n : Nat} (hn : n ≤ r.ord.length) (h200 : r.ord.length < 200) (hg : r.given < 100000) {st : Option (Nat × Int)} {marked : List (Int × Int)} (h : marksFor r n = some (st, marked)) : Good (putR r n marked) := by
  unfold marksFor at h
  split at h
  · rename_i hgap
    cases h
    exact good_mid G hn h200 hg hgap
  · split at h
    · cases h
    · rename_i L hL
      cases h
      obtain ⟨h1, h2, _⟩ := findL_fits hL
      refine good_spread G hn h200 hg h2 ?_
      rw [inside_len G]
      exact fits_le h1
/-- few enough for the whole row: never refused -/
theorem never_full {r : R} (G : Good r) {n : Nat} (hw : 20 ≤ r.wide) : marksFor r n ≠ none := by
  intro h
  unfold marksFor at h
  split at h
  · cases h
  · split at h
    · rename_i hL
      unfold findL at hL
      rw [List.find?_eq_none] at hL
      have h1 := hL r.wide (List.mem_range.mpr (Nat.lt_succ_self _))
      have hc : cnt r (max (aheadM r n) 0) r.wide ≤ 200 := Nat.le_trans (List.length_filter_le ..) G.len
      apply h1
      unfold fits
      rw [Bool.not_eq_true', decide_eq_false_iff_not]
      obtain ⟨k, hk⟩ : ∃ k, r.wide = 20 + k := ⟨r.wide - 20, by omega⟩
      rw [hk] at hc ⊢
      generalize cnt r (max (aheadM r n) 0) (20 + k) = c at hc ⊢
      have e4 : (4 : Int) ^ (20 + k) = ((4 ^ 20 * 4 ^ k : Nat) : Int) := by rw [Int.pow_add, Int.natCast_mul, Int.natCast_pow, Int.natCast_pow]; rfl
      have e3 : (3 : Int) ^ (20 + k) = ((3 ^ 20 * 3 ^ k : Nat) : Int) := by rw [Int.pow_add, Int.natCast_mul, Int.natCast_pow, Int.natCast_pow]; rfl
      rw [e4, e3]
      have h5 : (3 : Nat) ^ k ≤ 4 ^ k := Nat.pow_le_pow_left (by decide) k
      have h6 : (c + 1) * (3 ^ 20 * 3 ^ k) ≤ 4 ^ 20 * 4 ^ k := by
        calc (c + 1) * (3 ^ 20 * 3 ^ k) ≤ 201 * (3 ^ 20 * 3 ^ k) := Nat.mul_le_mul_right _ (by omega)
          _ = (201 * 3 ^ 20) * 3 ^ k := by rw [Nat.mul_assoc]
          _ ≤ 4 ^ 20 * 3 ^ k := Nat.mul_le_mul_right _ (by decide)
          _ ≤ 4 ^ 20 * 4 ^ k := Nat.mul_le_mul_left _ h5
      have h7 : ((c : Int) + 1) * ((3 ^ 20 * 3 ^ k : Nat) : Int) = (((c + 1) * (3 ^ 20 * 3 ^ k) : Nat) : Int) := by rw [Int.natCast_mul (c + 1)]; rfl
      rw [h7]
      omega
    · cases h

section
variable {P : Program} {w : World} {K : PySem.W.Frag} {mg : Str → Option Value} {base : Heap} {C CF CB CN CT CS c1 c2 : Addr}
def spCheck : Sp := fun vs H Q _ => ∃ (v lo hi : Int), vs = [.int v, .int lo, .int hi] ∧ lo ≤ v ∧ v ≤ hi ∧ Q .non H
theorem ok_check_within (T : Txt K mg C CF CB CN CT CS c1 c2) : Cal P w K mg base 1 "check_within" spCheck [] := by
  obtain ⟨f, fd, F, hm, b⟩ := T.d_check_within.ex
  refine ⟨f, fd, _, _, F.ok sc_check_within (fun vs H Q E h => ?_) (fun cdv A outer s H vs Q E hr h => ?_), hm, F.kp, b, .nil⟩
  · obtain ⟨_, _, _, rfl, _⟩ := h; rfl
  · obtain ⟨v, lo, hi, rfl, h1, h2, k⟩ := h
    refine ⟨_, (pss_one (ps_if (PW.pt (pw_or (pt_cmpR op_notTyB (pe_callTy call_type1 (by rfl) T.n_type (by decide +kernel) (pa_cons (pv 0) pa_nil)) (pe_bltn (v := .ty "int") (by rfl) T.n_int (by decide +kernel) rfl) (nomark _)) (pw_or (pt_cmpR op_lt (pv 0) (pv 1) (nomark _)) (pw_or1 (pt_cmpR op_gt (pv 0) (pv 2) (nomark _)))))) (pss_one ps_never) pss_nil)), ?_⟩
    refine ⟨_, rfl, _, _, rfl, .int _, _, _, rfl, rfl, _, rfl, ?_⟩
    refine iteNS rfl ?_
    refine ⟨_, rfl, _, rfl, _, _, rfl, rfl, _, rfl, ?_⟩
    refine iteFd (by omega) ?_
    refine ⟨_, rfl, _, rfl, _, _, rfl, rfl, _, rfl, ?_⟩
    exact iteFd (by omega) k
def spPower : Sp := fun vs H Q _ => ∃ (b : Int) (n : Nat), vs = [.int b, .int (n : Int)] ∧ 0 < b ∧ b ≤ 4 ∧ n ≤ 60 ∧ Q (.int (b ^ n)) H
theorem pow_bound {b : Int} {n : Nat} (h0 : 0 < b) (h4 : b ≤ 4) (hn : n ≤ 60) : (b ^ n).natAbs < 2 ^ 130 := by
  rw [Int.natAbs_pow]
  have h1 : b.natAbs ≤ 4 := by omega
  have h2 : b.natAbs ^ n ≤ 4 ^ n := Nat.pow_le_pow_left h1 n
  have h3 : 4 ^ n ≤ 4 ^ 60 := Nat.pow_le_pow_right (by decide) hn
  exact Nat.lt_of_le_of_lt (Nat.le_trans h2 h3) (by decide)
theorem ok_power (T : Txt K mg C CF CB CN CT CS c1 c2) : Cal P w K mg base 1 "power" spPower [] := by
  obtain ⟨f, fd, F, hm, b⟩ := T.d_power.ex
  refine ⟨f, fd, _, _, F.ok sc_power (fun vs H Q E h => ?_) (fun cdv A outer s H vs Q E hr h => ?_), hm, F.kp, b, .nil⟩
  · obtain ⟨_, _, rfl, _⟩ := h; rfl
  · obtain ⟨b, n, rfl, h0, h4, hn, k⟩ := h
    refine ⟨_, (pss_cons (ps_set (i := 2) sc_power.nd rfl (Or.inl rfl) pe_int)
      (pss_cons (ps_for PassesOwn.never rfl (pi_range1 (by rfl) T.n_range (pa_cons (pv 1) pa_nil)) (pg_name (i := 3) sc_power.nd rfl (Or.inl rfl))
        (pss_one (ps_set (i := 2) sc_power.nd rfl (Or.inl rfl) (pe_op op_mulW (pv 2) (pv 0)))))
      (pss_one (ps_ret (pv 2))))), ?_⟩
    refine ⟨_, rfl, _, rfl, by omega, by omega, for_range (lo := 0) (n := ((n : Int)).toNat) (fun i σ H' => H' = H ∧ ∃ z, σ = [some (.int b), some (.int (n : Int)), some (.int (b ^ i)), z]) ⟨rfl, none, by rw [Int.pow_zero]; rfl⟩ ?_ ?_⟩
    · rintro i σ H' hi ⟨rfl, z, rfl⟩
      have hi' : i < n := by omega
      refine ⟨_, rfl, _, rfl, _, _, rfl, rfl, wide_mul (pow_bound h0 h4 (by omega : i ≤ 60)) (show b.natAbs < 2 ^ 3 by omega) (by decide) (by decide) (by decide), rfl, some (.int (0 + (i : Int))), ?_⟩
      rw [Int.pow_succ]
      rfl
    · rintro σ H' ⟨rfl, z, rfl⟩
      refine ⟨_, rfl, ?_⟩
      rw [Int.toNat_natCast]
      exact k
def spToo : Sp := fun vs H Q _ => ∃ (l : Nat) (m : Int), vs = [.int (l : Int), .int m] ∧ l ≤ 60 ∧ 0 ≤ m ∧ m ≤ 2 ^ 60 ∧ Q (.bl (decide (4 ^ l < m * 3 ^ l))) H
theorem ok_is_too_full (T : Txt K mg C CF CB CN CT CS c1 c2) (G_check_within : Cal P w K mg base 1 "check_within" spCheck []) (G_power : Cal P w K mg base 1 "power" spPower []) : Cal P w K mg base 2 "is_too_full" spToo [] := by
  obtain ⟨f, fd, F, hm, b⟩ := T.d_is_too_full.ex
  refine ⟨f, fd, _, _, F.ok sc_is_too_full (fun vs H Q E h => ?_) (fun cdv A outer s H vs Q E hr h => ?_), hm, F.kp, b, .nil⟩
  · obtain ⟨_, _, rfl, _⟩ := h; rfl
  · obtain ⟨l, m, rfl, hl, h0, h1, k⟩ := h
    refine ⟨_, (pss_cons (ps_expr (pe_c G_check_within hr (by decide) rfl (pa_cons (pv 0) (pa_cons pe_int (pa_cons (pe_gc (by rfl) T.g_MOST_LEVEL) pa_nil)))))
      (pss_cons (ps_expr (pe_c G_check_within hr (by decide) rfl (pa_cons (pv 1) (pa_cons pe_int (pa_cons (pe_op op_shl pe_int (pe_gc (by rfl) T.g_MOST_LEVEL)) pa_nil)))))
      (pss_one (ps_ret (pe_cmpR op_gt (pe_op op_mulW (pv 1) (pe_c G_power hr (by decide) rfl (pa_cons pe_int (pa_cons (pv 0) pa_nil)))) (pe_c G_power hr (by decide) rfl (pa_cons pe_int (pa_cons (pv 0) pa_nil))) (nomark _)))))), ?_⟩
    refine ⟨_, rfl, _, _, _, rfl, by omega, by omega, ?_⟩
    refine ⟨_, rfl, _, _, rfl, rfl, ⟨by decide, by decide, by decide⟩, _, _, _, rfl, by omega, h1, ?_⟩
    refine ⟨_, rfl, _, rfl, 3, l, rfl, by decide, by decide, hl, _, _, rfl, rfl, wide_mul (show m.natAbs < 2 ^ 61 by omega) (pow_bound (b := 3) (by decide) (by decide) hl) (by decide) (by decide) (by decide), ?_⟩
    exact ⟨_, rfl, 4, l, rfl, by decide, by decide, hl, _, _, rfl, rfl, k⟩
theorem shl_one (l : Nat) : (1 : Int) * 2 ^ (l : Int).toNat = 2 ^ l := by rw [Int.toNat_natCast, Int.one_mul]
def spAt : Sp := fun vs H Q _ => ∃ (l : Nat) (m : Int), vs = [.int (l : Int), .int m] ∧ l ≤ 60 ∧ 0 ≤ m ∧ m < 2 ^ 60 ∧ Q (.int (m / 2 ^ l * 2 ^ l)) H
theorem ok_stretch_at (T : Txt K mg C CF CB CN CT CS c1 c2) (G_check_within : Cal P w K mg base 1 "check_within" spCheck []) : Cal P w K mg base 2 "stretch_at" spAt [] := by
  obtain ⟨f, fd, F, hm, b⟩ := T.d_stretch_at.ex
  refine ⟨f, fd, _, _, F.ok sc_stretch_at (fun vs H Q E h => ?_) (fun cdv A outer s H vs Q E hr h => ?_), hm, F.kp, b, .nil⟩
  · obtain ⟨_, _, rfl, _⟩ := h; rfl
  · obtain ⟨l, m, rfl, hl, h0, h1, k⟩ := h
    refine ⟨_, (pss_cons (ps_expr (pe_c G_check_within hr (by decide) rfl (pa_cons (pv 0) (pa_cons pe_int (pa_cons (pe_gc (by rfl) T.g_MOST_LEVEL) pa_nil)))))
      (pss_cons (ps_expr (pe_c G_check_within hr (by decide) rfl (pa_cons (pv 1) (pa_cons pe_int (pa_cons (pe_op op_sub (pe_op op_shl pe_int (pe_gc (by rfl) T.g_MOST_LEVEL)) pe_int) pa_nil)))))
      (pss_cons (ps_set (i := 2) sc_stretch_at.nd rfl (Or.inl rfl) (pe_op op_shl pe_int (pv 0)))
      (pss_one (ps_ret (pe_op op_mulW (pe_op op_fdivW (pv 1) (pv 2)) (pv 2))))))), ?_⟩
    refine ⟨_, rfl, _, _, _, rfl, by omega, by omega, ?_⟩
    refine ⟨_, rfl, _, _, rfl, rfl, ⟨by decide, by decide, by decide⟩, _, _, rfl, rfl, _, _, _, rfl, by omega, by show m ≤ 1 * 2 ^ 60 - 1; omega, ?_⟩
    refine ⟨_, rfl, _, _, rfl, rfl, ⟨by omega, by omega, by decide⟩, ?_⟩
    dsimp only
    rw [shl_one]
    have hp := two_pow_pos l
    have hq : 0 ≤ m / 2 ^ l := Int.ediv_nonneg h0 (Int.le_of_lt hp)
    have hq2 : m / 2 ^ l ≤ m := Int.ediv_le_self _ h0
    refine ⟨_, rfl, _, rfl, _, _, rfl, rfl, wide_div hp (two_pow_lt hl) (by decide) (by decide), _, rfl, _, _, rfl, rfl, wide_mul (show (m / 2 ^ l).natAbs < 2 ^ 61 by omega) (two_pow_lt hl) (by decide) (by decide) (by decide), k⟩

def spSpread : Sp := fun vs H Q _ => ∃ (l : Nat) (s : Int) (m : Nat), vs = [.int (l : Int), .int s, .int (m : Int)] ∧ l ≤ 60 ∧ 0 ≤ s ∧ s < 2 ^ 60 ∧ m ≤ 2 ^ l ∧ m ≤ 1024 ∧ ∀ p, H p = none → Q (.ref p) (upd H p (.lst ((spreadL l s m).map V.int)))
theorem ok_spread (T : Txt K mg C CF CB CN CT CS c1 c2) (G_check_within : Cal P w K mg base 1 "check_within" spCheck []) : Cal P w K mg base 2 "spread" spSpread [] := by
  obtain ⟨f, fd, F, hm, b⟩ := T.d_spread.ex
  refine ⟨f, fd, _, _, F.ok sc_spread (fun vs H Q E h => ?_) (fun cdv A outer s H vs Q E hr h => ?_), hm, F.kp, b, .nil⟩
  · obtain ⟨_, _, _, rfl, _⟩ := h; rfl
  · obtain ⟨l, st, m, rfl, hl, h0, h1, hm1, hm2, k⟩ := h
    refine ⟨_, (pss_cons (ps_expr (pe_c G_check_within hr (by decide) rfl (pa_cons (pv 0) (pa_cons pe_int (pa_cons (pe_gc (by rfl) T.g_MOST_LEVEL) pa_nil)))))
      (pss_cons (ps_expr (pe_c G_check_within hr (by decide) rfl (pa_cons (pv 1) (pa_cons pe_int (pa_cons (pe_op op_sub (pe_op op_shl pe_int (pe_gc (by rfl) T.g_MOST_LEVEL)) pe_int) pa_nil)))))
      (pss_cons (ps_set (i := 3) sc_spread.nd rfl (Or.inr rfl) (pe_op op_shl pe_int (pv 0)))
      (pss_cons (ps_expr (pe_c G_check_within hr (by decide) rfl (pa_cons (pv 2) (pa_cons pe_int (pa_cons (pe_callB (id := "min") (call_min2 rfl) (by rfl) T.n_min (by decide +kernel) (pa_cons (pv 3) (pa_cons (pe_gc (by rfl) T.g_MOST_SPREAD) pa_nil))) pa_nil)))))
      (pss_one (ps_ret (pe_lc (own := [("place", 4)]) (g := (gName 4)) (by rfl) sc_spread.nd (pi_range1 (by rfl) T.n_range (pa_cons (pv 2) pa_nil)) (blkOk_by (own := [("place", 4)]) (N := ["level", "start", "many", "size", "place"]) (sc := defScope s_spread) (by decide +kernel)) (fun _ _ _ _ _ => (pg_name (i := 4) sc_spread.nd rfl (Or.inl rfl))) (fun _ _ _ _ _ => pts_nil) (fun _ _ _ _ _ => (pe_op op_add (pv 1) (pe_op op_fdivW (pe_op op_mulW (pv 3) (pv 4)) (pv 2))))))))))), ?_⟩
    refine ⟨_, rfl, _, _, _, rfl, by omega, by omega, ?_⟩
    refine ⟨_, rfl, _, _, rfl, rfl, ⟨by decide, by decide, by decide⟩, _, _, rfl, rfl, _, _, _, rfl, by omega, by show st ≤ 1 * 2 ^ 60 - 1; omega, ?_⟩
    refine ⟨_, rfl, _, _, rfl, rfl, ⟨by omega, by omega, by decide⟩, ?_⟩
    dsimp only
    rw [shl_one]
    have hp := two_pow_pos l
    have hm3 : (m : Int) ≤ 2 ^ l := by
      have h3 : ((2 : Int) ^ l) = ((2 ^ l : Nat) : Int) := by push_cast; rfl
      rw [h3]
      exact_mod_cast hm1
    refine ⟨_, rfl, _, rfl, _, _, rfl, _, _, _, rfl, by omega, ?_, ?_⟩
    · split <;> omega
    refine ⟨_, rfl, _, rfl, by omega, by omega, fun D hD => ?_⟩
    refine lc_range (lo := 0) (n := ((m : Int)).toNat) (fun i H' => H' = upd H D (.lst (((List.range i).map fun (i : Nat) => st + 2 ^ l * (i : Int) / (m : Int)).map V.int))) rfl ?_ ?_
    · rintro i H' hi rfl
      have hi' : i < m := by omega
      refine ⟨rfl, _, rfl, _, rfl, _, rfl, _, _, rfl, rfl, ?_, _, rfl, _, _, rfl, rfl, ?_, _, _, rfl, rfl, ?_⟩
      · exact wide_mul (two_pow_lt hl) (show (0 + (i : Int)).natAbs < 2 ^ 20 by omega) (by decide) (by decide) (by decide)
      · exact wide_div (by omega) (show (m : Int).natAbs < 2 ^ 20 by omega) (by decide) (by decide)
      · refine ⟨_, upd_same, ?_, ?_⟩
        · refine smallL ?_
          rw [List.length_map, List.length_map, List.length_range]
          omega
        · rw [upd_upd, List.range_succ, List.map_append, List.map_append, Int.zero_add]
          rfl
    · rintro H' rfl
      rw [Int.toNat_natCast]
      exact k D hD

def spChk (C : Addr) : Sp := fun vs H Q _ => ∃ (p l d : Addr) (r : R) (x : Int), vs = [.ref p, .int x] ∧ RowAt C H p l d r ∧ x ∈ r.ord ∧ Q .non H
theorem ok_chk (T : Txt K mg C CF CB CN CT CS c1 c2) : Met P w K mg base 1 C "_check_thing" (spChk C) [] := by
  obtain ⟨f, fd, ds, F, hm, b, dv⟩ := T.m__check_thing.ex
  refine ⟨f, fd, _, _, T.cl, hm, F.ok sc_Row__check_thing (fun vs H Q E h => ?_) (fun cdv A outer s H vs Q E hr h => ?_), b, dv⟩
  · obtain ⟨_, _, _, _, _, rfl, _⟩ := h; rfl
  · obtain ⟨p, l, d, r, x, rfl, S, hx, k⟩ := h
    obtain ⟨⟨dx, ho⟩, hl, kvs, hd, hn, D⟩ := id S
    refine ⟨_, (pss_one (ps_if (PW.pt (pw_or (pt_cmpR op_notTyB (pe_callTy call_type1 (by rfl) T.n_type (by decide +kernel) (pa_cons (pv 1) pa_nil)) (pe_bltn (v := .ty "int") (by rfl) T.n_int (by decide +kernel) rfl) (nomark _)) (pw_or1 (pt_cmp (pc_dnotin (hu_of hr) (pv 1) (pe_fld (pv 0) rfl)))))) (pss_one ps_never) pss_nil)), ?_⟩
    refine ⟨_, rfl, _, _, rfl, .int _, _, _, rfl, rfl, _, rfl, ?_⟩
    refine iteNS rfl ?_
    refine ⟨_, rfl, _, rfl, p, C, dx, _, _, rfl, ho, T.cl, T.nM, fl_marks .., d, _, rfl, DGet.k (k := Sum.inl x) hd, _, rfl, ?_⟩
    rw [D.get, if_pos hx]
    exact iteF k
def spPlace (C : Addr) : Sp := fun vs H Q _ => ∃ (p l d : Addr) (r : R) (o : Option Int), vs = [.ref p, oneV o] ∧ RowAt C H p l d r ∧ (∀ x, o = some x → x ∈ r.ord) ∧ Q (.int (placeOf r o : Nat)) H
theorem idx_ok {xs : List Int} {x : Int} (h : x ∈ xs) : (xs.map V.int)[xs.idxOf x]? = some (.int x) ∧ ∀ (m : Nat) (z : V), m < xs.idxOf x → (xs.map V.int)[m]? = some z → eqV z (.int x) = false := by
  have hlt := List.idxOf_lt_length_of_mem h
  constructor
  · rw [List.getElem?_map, List.getElem?_eq_getElem hlt, List.getElem_idxOf]
    rfl
  · intro m z hm hz
    have hml : m < xs.length := Nat.lt_trans hm hlt
    rw [List.getElem?_map, List.getElem?_eq_getElem hml] at hz
    have e : V.int xs[m] = z := Option.some.inj hz
    rw [← e]
    show (xs[m] == x) = false
    have := List.not_of_lt_findIdx (p := (· == x)) (xs := xs) hm
    simpa using this
theorem flat_ints (xs : List Int) : (xs.map V.int).all flatV = true := by
  rw [List.all_eq_true]
  intro y hy
  obtain ⟨i, _, rfl⟩ := List.mem_map.mp hy
  rfl
theorem ok_place (T : Txt K mg C CF CB CN CT CS c1 c2) (M__check_thing : Met P w K mg base 1 C "_check_thing" (spChk C) []) : Met P w K mg base 2 C "_place_behind" (spPlace C) [] := by
  obtain ⟨f, fd, ds, F, hm, b, dv⟩ := T.m__place_behind.ex
  refine ⟨f, fd, _, _, T.cl, hm, F.ok sc_Row__place_behind (fun vs H Q E h => ?_) (fun cdv A outer s H vs Q E hr h => ?_), b, dv⟩
  · obtain ⟨_, _, _, _, _, rfl, _⟩ := h; rfl
  · obtain ⟨p, l, d, r, o, rfl, S, hx, k⟩ := h
    obtain ⟨⟨dx, ho⟩, hl, kvs, hd, hn, D⟩ := id S
    refine ⟨_, (pss_cons (ps_if (pt_cmpR op_isN (pv 1) pe_non (nomark _)) (pss_one (ps_ret pe_int)) pss_nil)
      (pss_cons (ps_expr (pe_mt M__check_thing hr (by decide) (pv 0) (pa_cons (pv 1) pa_nil)))
      (pss_one (ps_ret (pe_op op_add (pe_bm PySem.F.plainAttrs_list PySem.F.slot_list_index PySem.F.type_list_index mt_index (pe_fld (pv 0) rfl) (pa_cons (pv 1) pa_nil)) pe_int))))), ?_⟩
    cases o with
    | none =>
      refine ⟨_, rfl, rfl, _, rfl, ?_⟩
      exact iteT k
    | some x =>
      have hx' := hx x rfl
      obtain ⟨i1, i2⟩ := idx_ok hx'
      refine ⟨_, rfl, rfl, _, rfl, ?_⟩
      refine iteFd (by intro z; cases z) ?_
      refine ⟨_, rfl, p, dx, _, rfl, ho, rfl, _, rfl, p, l, d, r, x, rfl, S, hx', ?_⟩
      refine ⟨_, rfl, p, C, dx, _, _, rfl, ho, T.cl, T.nO, fl_order .., .inl ⟨rfl, _, SqL.of hl⟩, _, rfl, l, _, _, _, _, rfl, rfl, SqL.of hl, rfl, flat_ints _, i1, beq_self_eq_true x, i2, _, _, rfl, rfl, ?_⟩
      exact k
/-! ### the marks on both sides -/
def spAround (C : Addr) : Sp := fun vs H Q _ => ∃ (p l d : Addr) (r : R) (n : Nat), vs = [.ref p, .int (n : Int)] ∧ RowAt C H p l d r ∧ Good r ∧ n ≤ r.ord.length ∧ ∀ t, H t = none → Q (.ref t) (upd H t (.tup [.int (aheadM r n), .int (behindM r n)]))
theorem getD_at {xs : List Int} {i : Nat} (h : i < xs.length) : (xs.map V.int)[i]? = some (.int (xs.getD i 0)) := by
  rw [List.getElem?_map, List.getElem?_eq_getElem h, List.getD_eq_getElem?_getD, List.getElem?_eq_getElem h]
  rfl
theorem ok_around (T : Txt K mg C CF CB CN CT CS c1 c2) : Met P w K mg base 1 C "_marks_around" (spAround C) [] := by
  obtain ⟨f, fd, ds, F, hm, b, dv⟩ := T.m__marks_around.ex
  refine ⟨f, fd, _, _, T.cl, hm, F.ok sc_Row__marks_around (fun vs H Q E h => ?_) (fun cdv A outer s H vs Q E hr h => ?_), b, dv⟩
  · obtain ⟨_, _, _, _, _, rfl, _⟩ := h; rfl
  · obtain ⟨p, l, d, r, n, rfl, S, GR, hn, k⟩ := h
    obtain ⟨⟨dx, ho⟩, hl, kvs, hd, hkn, D⟩ := id S
    have h60 := GR.w60
    refine ⟨_, (pss_cons (ps_set (i := 2) sc_Row__marks_around.nd rfl (Or.inl rfl) (pe_un un_neg pe_int))
      (pss_cons (ps_if (pt_cmpR op_gt (pv 1) pe_int (nomark _)) (pss_one (ps_set (i := 2) sc_Row__marks_around.nd rfl (Or.inl rfl) (pe_dget (by exact hu_of hr) (pe_fld (pv 0) rfl) (pe_ix ix_list (pe_fld (pv 0) rfl) (pe_op op_sub (pv 1) pe_int) (fun _ _ => rfl)) (fun _ _ => rfl)))) pss_nil)
      (pss_cons (ps_set (i := 3) sc_Row__marks_around.nd rfl (Or.inl rfl) (pe_op op_shl pe_int (pe_fld (pv 0) rfl)))
      (pss_cons (ps_if (pt_cmpR op_lt (pv 1) (pe_callB (id := "len") call_len_seq (by rfl) T.n_len (by decide +kernel) (pa_cons (pe_fld (pv 0) rfl) pa_nil)) (nomark _)) (pss_one (ps_set (i := 3) sc_Row__marks_around.nd rfl (Or.inl rfl) (pe_dget (by exact hu_of hr) (pe_fld (pv 0) rfl) (pe_ix ix_list (pe_fld (pv 0) rfl) (pv 1) (fun _ _ => rfl)) (fun _ _ => rfl)))) pss_nil)
      (pss_one (ps_ret (pe_tup (pa_cons (pv 2) (pa_cons (pv 3) pa_nil))))))))), ?_⟩
    -- the second half, from what stands ahead
    have rest : ∀ z, tSeq (tAsg (tOp (rI CPow fun i j => V.int (i * 2 ^ j.toNat)) (tC (.int 1)) (tFld K (tVar 0) "_wide")) (gName 3)) (tSeq (tIfS (tTest (tOp (rI0 fun i j => V.bl (decide (i < j))) (tVar 1) (tCB (fun xs H Q => ∃ p ys, xs = [V.ref p] ∧ (SqL K H p ys ∨ SqT K H p ys) ∧ Q (.int ys.length) H) (tCons (tFld K (tVar 0) "_order") tNil))))
        (tAsg (tDGet (tFld K (tVar 0) "_marks") (tOp (rIxL K) (tFld K (tVar 0) "_order") (tVar 1))) (gName 3)) tNext) (tRet (tTup (tCons (tVar 2) (tCons (tVar 3) tNil))))) { nx := fun _ H' => Q .non H', rt := Q } [some (.ref p), some (.int (n : Int)), some (.int (aheadM r n)), z] H := by
      intro z
      refine ⟨_, rfl, p, C, dx, _, _, rfl, ho, T.cl, T.nW, fl_wide .., _, _, rfl, rfl, ⟨by omega, by omega, by decide⟩, ?_⟩
      refine ⟨_, rfl, _, rfl, p, C, dx, _, _, rfl, ho, T.cl, T.nO, fl_order .., l, _, rfl, .inl (SqL.of hl), _, _, rfl, rfl, _, rfl, ?_⟩
      rw [List.length_map]
      refine ite2d (fun hlt => ?_) (fun hge => ?_)
      · have hlt' : n < r.ord.length := by omega
        have e1 : valV kvs (Sum.inl (r.ord.getD n 0)) = some (.int (r.mrk (r.ord.getD n 0))) := by rw [D.get, if_pos (getD_mem hlt')]
        refine ⟨_, rfl, p, C, dx, _, _, rfl, ho, T.cl, T.nM, fl_marks .., _, rfl, p, C, dx, _, _, rfl, ho, T.cl, T.nO, fl_order .., _, rfl, l, _, _, _, rfl, rfl, SqL.of hl, atI_nat (getD_at hlt'), d, _, rfl, by rw [← e1]; exact DGet.k (k := Sum.inl (r.ord.getD n 0)) hd, ?_⟩
        refine ⟨_, rfl, _, rfl, small (by show 2 ≤ 100000; decide), fun t ht => ?_⟩
        have e2 : behindM r n = r.mrk (r.ord.getD n 0) := if_pos hlt'
        rw [← e2]
        exact k t ht
      · have hge' : ¬ n < r.ord.length := by omega
        refine ⟨_, rfl, _, rfl, small (by show 2 ≤ 100000; decide), fun t ht => ?_⟩
        have e2 : behindM r n = 2 ^ r.wide := if_neg hge'
        have e3 : (1 : Int) * 2 ^ ((r.wide : Int)).toNat = behindM r n := by rw [shl_one, e2]
        dsimp only
        rw [e3]
        exact k t ht
    refine ⟨_, rfl, ?_⟩
    refine ⟨_, rfl, _, _, rfl, rfl, _, rfl, ?_⟩
    refine ite2d (fun hpos => ?_) (fun hz => ?_)
    · obtain ⟨m, rfl⟩ : ∃ m, n = m + 1 := ⟨n - 1, by omega⟩
      have hlt' : m < r.ord.length := by omega
      have e1 : valV kvs (Sum.inl (r.ord.getD m 0)) = some (.int (r.mrk (r.ord.getD m 0))) := by rw [D.get, if_pos (getD_mem hlt')]
      refine ⟨_, rfl, p, C, dx, _, _, rfl, ho, T.cl, T.nM, fl_marks .., _, rfl, p, C, dx, _, _, rfl, ho, T.cl, T.nO, fl_order .., _, rfl, _, _, rfl, rfl, l, _, _, _, rfl, rfl, SqL.of hl, by rw [show ((m + 1 : Nat) : Int) - 1 = (m : Int) by omega]; exact atI_nat (getD_at hlt'), d, _, rfl, by rw [← e1]; exact DGet.k (k := Sum.inl (r.ord.getD m 0)) hd, ?_⟩
      exact rest _
    · obtain rfl : n = 0 := by omega
      exact rest _
/-! ### does a thing lie in a stretch -/
def spLies (C : Addr) : Sp := fun vs H Q _ => ∃ (p l d : Addr) (r : R) (x : Int) (L : Nat) (f : Int), vs = [.ref p, .int x, .int (L : Int), .int f] ∧ RowAt C H p l d r ∧ x ∈ r.ord ∧ L ≤ 60 ∧ Q (.bl (lies r L f x)) H
theorem ok_lies (T : Txt K mg C CF CB CN CT CS c1 c2) : Met P w K mg base 1 C "_lies_in" (spLies C) [] := by
  obtain ⟨f, fd, ds, F, hm, b, dv⟩ := T.m__lies_in.ex
  refine ⟨f, fd, _, _, T.cl, hm, F.ok sc_Row__lies_in (fun vs H Q E h => ?_) (fun cdv A outer s H vs Q E hr h => ?_), b, dv⟩
  · obtain ⟨_, _, _, _, _, _, _, rfl, _⟩ := h; rfl
  · obtain ⟨p, l, d, r, x, L, f, rfl, S, hx, hL, k⟩ := h
    obtain ⟨⟨dx, ho⟩, hl, kvs, hd, hkn, D⟩ := id S
    refine ⟨_, (pss_cons (ps_set (i := 4) sc_Row__lies_in.nd rfl (Or.inl rfl) (pe_dget (by exact hu_of hr) (pe_fld (pv 0) rfl) (pv 1) (fun _ _ => rfl)))
      (pss_one (ps_ret (pe_chain op_le op_lt (pv 3) (pv 4) (pe_op op_add (pv 3) (pe_op op_shl pe_int (pv 2))))))), ?_⟩
    have e1 : valV kvs (Sum.inl x) = some (.int (r.mrk x)) := by rw [D.get, if_pos hx]
    refine ⟨_, rfl, p, C, dx, _, _, rfl, ho, T.cl, T.nM, fl_marks .., _, rfl, d, _, rfl, by rw [← e1]; exact DGet.k (k := Sum.inl x) hd, ?_⟩
    refine ⟨_, rfl, _, rfl, _, _, rfl, rfl, _, rfl, ?_⟩
    unfold lies at k
    refine ite2d (fun h1 => ?_) (fun h1 => ?_)
    · rw [decide_eq_true h1, Bool.true_and] at k
      refine ⟨_, rfl, _, rfl, _, _, rfl, rfl, ⟨by omega, by omega, by decide⟩, _, _, rfl, rfl, _, _, rfl, rfl, ?_⟩
      dsimp only
      rw [shl_one]
      exact k
    · rw [decide_eq_false h1, Bool.false_and] at k
      exact k
/-! ### the least stretch that bears one more -/
def spSeek (C CF : Addr) : Sp := fun vs H Q E => ∃ (p l d : Addr) (r : R) (m : Int), vs = [.ref p, .int m] ∧ RowAt C H p l d r ∧ Good r ∧ 0 ≤ m ∧ m < 2 ^ r.wide ∧
  (findL r m = none → ∀ H', Same H H' → E (.ref CF) none H') ∧ (∀ L, findL r m = some L → ∀ H' t, Same H H' → H t = none → H' t = some (.tup [.int (L : Int), .int (baseM m L)]) → Q (.ref t) H')
theorem filt_yes {α : Type} {f : α → Bool} {xs : List α} {i : Nat} {x : α} (h : xs[i]? = some x) (hf : f x = true) : (xs.take (i + 1)).filter f = (xs.take i).filter f ++ [x] := by
  rw [List.take_add_one, h]
  simp [hf]
theorem filt_no {α : Type} {f : α → Bool} {xs : List α} {i : Nat} {x : α} (h : xs[i]? = some x) (hf : f x = false) : (xs.take (i + 1)).filter f = (xs.take i).filter f := by
  rw [List.take_add_one, h]
  simp [hf]
theorem filt_len {α : Type} (f : α → Bool) (xs : List α) (i : Nat) : ((xs.take i).filter f).length ≤ xs.length := Nat.le_trans (List.length_filter_le ..) (List.length_take_le' ..)
theorem find_step {p : Nat → Bool} {n i : Nat} (h : ∀ j, j < i → p j = false) (hi : i < n) (hp : p i = true) : (List.range n).find? p = some i := by
  rw [List.find?_range_eq_some]
  exact ⟨hp, List.mem_range.mpr hi, fun j hj => by simp [h j hj]⟩
theorem find_none {p : Nat → Bool} {n : Nat} (h : ∀ j, j < n → p j = false) : (List.range n).find? p = none := by
  rw [List.find?_eq_none]
  intro j hj
  simp [h j (List.mem_range.mp hj)]
theorem ok_seek (T : Txt K mg C CF CB CN CT CS c1 c2) (M__lies_in : Met P w K mg base 1 C "_lies_in" (spLies C) []) (G_stretch_at : Cal P w K mg base 2 "stretch_at" spAt []) (G_is_too_full : Cal P w K mg base 2 "is_too_full" spToo []) :
    MetX P w K mg base (L2.CX P w) 3 C "_stretch_to_spread" (spSeek C CF) [] := by
  obtain ⟨f, fd, ds, F, hm, b, dv⟩ := T.m__stretch_to_spread.ex
  refine ⟨f, fd, _, _, T.cl, hm, F.okX sc_Row__stretch_to_spread (fun vs H Q E h => ?_) (fun cdv A outer s H vs Q E hr h => ?_), b, dv⟩
  · obtain ⟨_, _, _, _, _, rfl, _⟩ := h; rfl
  · obtain ⟨p, l, d, r, m, rfl, S, GR, hm0, hm1, kN, kS⟩ := h
    have h60 := GR.w60
    have hlen := GR.len
    have hm2 : m < 2 ^ 60 := Int.lt_of_lt_of_le hm1 (two_pow_le h60)
    refine ⟨_, (pss_cons (ps_for (passes_of rfl) rfl (pi_range1 (by rfl) T.n_range (pa_cons (pe_op op_add (pe_fld (pv 0) rfl) pe_int) pa_nil)) (pg_name (i := 2) sc_Row__stretch_to_spread.nd rfl (Or.inr rfl))
        (pss_cons (ps_set (i := 3) sc_Row__stretch_to_spread.nd rfl (Or.inr rfl) (pe_c G_stretch_at hr (by decide) rfl (pa_cons (pv 2) (pa_cons (pv 1) pa_nil))))
      (pss_cons (ps_set (i := 5) sc_Row__stretch_to_spread.nd rfl (Or.inl rfl) (pe_callB (id := "len") call_len_seq (by rfl) T.n_len (by decide +kernel) (pa_cons (pe_lc (own := [("thing", 4)]) (g := (gName 4)) (by rfl) sc_Row__stretch_to_spread.nd (pi_list (pe_fld (pv 0) rfl)) (blkOk_by (own := [("thing", 4)]) (N := ["self", "mark", "level", "first", "thing", "many"]) (sc := defScope s_Row__stretch_to_spread) (by decide +kernel)) (fun _ _ _ _ _ => (pg_name (i := 4) sc_Row__stretch_to_spread.nd rfl (Or.inl rfl))) (fun _ _ _ _ _ => pts_one (by exact (pt_val (pe_mt M__lies_in hr (by decide) (pv 0) (pa_cons (pv 4) (pa_cons (pv 2) (pa_cons (pv 3) pa_nil))))))) (fun _ _ _ _ _ => (pv 4))) pa_nil)))
      (pss_one (ps_if (pt_not (pt_val (pe_c G_is_too_full hr (by decide) rfl (pa_cons (pv 2) (pa_cons (pe_op op_add (pv 5) pe_int) pa_nil))))) (pss_one (ps_ret (pe_tup (pa_cons (pv 2) (pa_cons (pv 3) pa_nil))))) pss_nil)))))
      (pss_one (ps_raise rfl (takes_of rfl rfl rfl rfl) (pmk_own PySem.F.excBase_ValueError T.full.ex T.full.g T.full.kp (raises_own T.full.sb T.full.ty) rfl)))), ?_⟩
    obtain ⟨⟨dx0, ho0⟩, hl0, kvs0, hd0, _⟩ := id S
    refine ⟨_, rfl, p, C, dx0, _, _, rfl, ho0, T.cl, T.nW, fl_wide .., _, _, rfl, rfl, _, rfl, by omega, by omega, ?_⟩
    have en : ((r.wide : Int) + 1).toNat = r.wide + 1 := by omega
    rw [en]
    refine for_range (lo := 0) (n := r.wide + 1) (fun i σ H' => Same H H' ∧ (∀ j, j < i → fits r m j = false) ∧ ∃ z2 z3 z4 z5, σ = [some (.ref p), some (.int m), z2, z3, z4, z5]) ⟨Same.refl _, fun j hj => absurd hj (Nat.not_lt_zero _), none, none, none, none, rfl⟩ ?_ ?_
    · rintro i σ H1 hi ⟨s1, hno, z2, z3, z4, z5, rfl⟩
      have S1 := S.keep s1
      obtain ⟨⟨dx, ho⟩, hl, kvs, hd, hkn, D⟩ := id S1
      rw [Int.zero_add]
      refine ⟨_, rfl, _, rfl, i, m, rfl, by omega, hm0, hm2, ?_⟩
      -- many = len([..])
      have ef : m / 2 ^ i * 2 ^ i = baseM m i := rfl
      refine ⟨_, rfl, p, C, dx, _, _, rfl, ho, T.cl, T.nO, fl_order .., l, rfl, ⟨_, SqL.of hl⟩, fun Dl hDl => ?_⟩
      refine lc_list (K := K) (a := l) (xs := r.ord.map V.int) (fun j H' => H' = upd H1 Dl (.lst (((r.ord.take j).filter (lies r i (baseM m i))).map V.int))) (by simp) (fun j H' _ e => by rw [e]; exact (same_new hDl).seq (SqL.of hl)) ?_ ?_
      · rintro j x H2 hj rfl
        obtain ⟨y, hy, rfl⟩ : ∃ y, r.ord[j]? = some y ∧ x = V.int y := by
          rw [List.getElem?_map] at hj
          cases e : r.ord[j]? with
          | none => rw [e] at hj; cases hj
          | some y => rw [e] at hj; exact ⟨y, rfl, (Option.some.inj hj).symm⟩
        have S2 := S1.keep (same_new (o := .lst (((r.ord.take j).filter (lies r i (baseM m i))).map V.int)) hDl)
        obtain ⟨dx2, ho2⟩ := S2.ob
        refine ⟨rfl, _, rfl, p, dx2, _, rfl, ho2, rfl, _, rfl, _, rfl, _, rfl, p, l, d, r, y, i, _, rfl, S2, List.mem_of_getElem? hy, by omega, _, rfl, ?_⟩
        rw [ef]
        refine iteOf (fun hyes => ?_) (fun hno' => ?_)
        · refine ⟨_, rfl, _, upd_same, smallL ?_, ?_⟩
          · rw [List.length_map]
            have := filt_len (lies r i (baseM m i)) r.ord j
            omega
          · rw [upd_upd, filt_yes hy hyes, List.map_append]
            rfl
        · rw [filt_no hy hno']
      · rintro H2 rfl
        rw [List.length_map, List.take_length]
        have S2 := S1.keep (same_new (o := .lst ((r.ord.filter (lies r i (baseM m i))).map V.int)) hDl)
        have s2 : Same H (upd H1 Dl (.lst ((r.ord.filter (lies r i (baseM m i))).map V.int))) := s1.trans (same_new hDl)
        have hL2 : (upd H1 Dl (.lst ((r.ord.filter (lies r i (baseM m i))).map V.int))) Dl = some (.lst ((r.ord.filter (lies r i (baseM m i))).map V.int)) := upd_same
        generalize upd H1 Dl (.lst ((r.ord.filter (lies r i (baseM m i))).map V.int)) = H2 at *
        have hcnt : ((r.ord.filter (lies r i (baseM m i))).map V.int).length = cnt r m i := List.length_map ..
        have hc2 : cnt r m i ≤ 200 := Nat.le_trans (List.length_filter_le ..) hlen
        refine ⟨_, _, rfl, .inl (SqL.of hL2), ?_⟩
        rw [hcnt]
        refine ⟨_, rfl, _, rfl, _, _, rfl, rfl, i, _, rfl, by omega, by omega, by omega, _, rfl, ?_⟩
        refine iteOf (fun hyes => ?_) (fun hno' => ?_)
        · have hf : fits r m i = true := hyes
          refine ⟨_, rfl, _, rfl, small (by show 2 ≤ 100000; decide), fun t ht => ?_⟩
          exact kS i (find_step hno hi hf) _ t (s2.trans (same_new ht)) (s2.free ht) upd_same
        · have hf : fits r m i = false := hno'
          refine ⟨s2, fun j hj => ?_, _, _, _, _, rfl⟩
          rcases Nat.lt_succ_iff_lt_or_eq.mp hj with g | g
          · exact hno j g
          · rw [g]; exact hf
    · rintro σ H1 ⟨s1, hno, z2, z3, z4, z5, rfl⟩
      exact kN (find_none hno) _ s1
/-! ### the things of a stretch with their new marks -/
def spSpreadM (C : Addr) : Sp := fun vs H Q _ => ∃ (p l d st o : Addr) (r : R) (g : Int) (L : Nat) (f : Int) (xs : List Int), vs = [.ref p, .ref st, .ref o, .int g] ∧ RowAt C H p l d r ∧ H st = some (.tup [.int (L : Int), .int f]) ∧ H o = some (.lst (xs.map V.int)) ∧
  (∀ x ∈ xs, x = g ∨ x ∈ r.ord) ∧ L ≤ 60 ∧ 0 ≤ f ∧ f < 2 ^ 60 ∧ xs.length ≤ 1000 ∧ (xs.filter fun x => decide (x = g) || lies r L f x).length ≤ 2 ^ L ∧
  ∀ (H' : Hp) (q : Addr) (as : List Addr), Same H H' → H q = none → (∀ t ∈ as, H t = none) → H' q = some (.lst (as.map V.ref)) → as.length = (xs.filter fun x => decide (x = g) || lies r L f x).length →
    (∀ (i : Nat) (t m : Int), (xs.filter fun x => decide (x = g) || lies r L f x)[i]? = some t → (spreadL L f (xs.filter fun x => decide (x = g) || lies r L f x).length)[i]? = some m → ∃ c, as[i]? = some c ∧ H' c = some (.tup [.int t, .int m])) → Q (.ref q) H'
theorem spread_len (l : Nat) (s : Int) (m : Nat) : (spreadL l s m).length = m := by
  unfold spreadL
  rw [List.length_map, List.length_range]
theorem ok_spreadM (T : Txt K mg C CF CB CN CT CS c1 c2) (M__lies_in : Met P w K mg base 1 C "_lies_in" (spLies C) []) (G_spread : Cal P w K mg base 2 "spread" spSpread []) : Met P w K mg base 3 C "_spread_marks" (spSpreadM C) [] := by
  obtain ⟨f, fd, ds, F, hm, b, dv⟩ := T.m__spread_marks.ex
  refine ⟨f, fd, _, _, T.cl, hm, F.ok sc_Row__spread_marks (fun vs H Q E h => ?_) (fun cdv A outer s H vs Q E hr h => ?_), b, dv⟩
  · obtain ⟨_, _, _, _, _, _, _, _, _, _, rfl, _⟩ := h; rfl
  · obtain ⟨p, l, d, st, o, r, g, L, f, xs, rfl, S, hst, ho, hxs, hL, hf0, hf1, hxl, hins, k⟩ := h
    refine ⟨_, (pss_cons (ps_asg (pv 1) (pg_tup rfl (pgs_cons (pg_name (i := 4) sc_Row__spread_marks.nd rfl (Or.inr rfl)) (pgs_cons (pg_name (i := 5) sc_Row__spread_marks.nd rfl (Or.inr rfl)) pgs_nil))))
      (pss_cons (ps_setLc (i := 7) (own := [("thing", 6)]) (g := (gName 6)) rfl sc_Row__spread_marks.nd rfl rfl (sw_true rfl rfl rfl (by decide +kernel)) (pi_list (pv 2)) (blkOk_by (own := [("thing", 6)]) (N := ["self", "stretch", "order", "number", "level", "first", "thing", "inside"]) (sc := defScope s_Row__spread_marks) (by decide +kernel)) (fun _ _ _ _ _ => (pg_name (i := 6) sc_Row__spread_marks.nd rfl (Or.inl rfl))) (fun _ _ _ _ _ => pts_one (by exact (PW.pt (pw_or (pt_cmpR op_eq (pv 6) (pv 3) (nomark _)) (pw_or1 (pt_val (pe_mt M__lies_in hr (by decide) (pv 0) (pa_cons (pv 6) (pa_cons (pv 4) (pa_cons (pv 5) pa_nil)))))))))) (fun _ _ _ _ _ => (pv 6)))
      (pss_one (ps_ret (pe_listZip rfl (by rfl) T.n_list (by rfl) T.n_zip (pa_cons (pv 7) (pa_cons (pe_c G_spread hr (by decide) rfl (pa_cons (pv 4) (pa_cons (pv 5) (pa_cons (pe_callB (id := "len") call_len_seq (by rfl) T.n_len (by decide +kernel) (pa_cons (pv 7) pa_nil)) pa_nil)))) pa_nil))))))), ?_⟩
    -- level, first = stretch
    refine ⟨_, rfl, st, _, rfl, SqT.of hst, rfl, _, _, rfl, _, _, rfl, rfl, ?_⟩
    -- inside
    refine ⟨_, rfl, o, rfl, ⟨_, SqL.of ho⟩, fun Dl hDl => ?_⟩
    refine lc_list (K := K) (a := o) (xs := xs.map V.int) (fun j H' => H' = upd H Dl (.lst (((xs.take j).filter fun x => decide (x = g) || lies r L f x).map V.int))) (by simp) (fun j H' _ e => by rw [e]; exact (same_new hDl).seq (SqL.of ho)) ?_ ?_
    · rintro j x H2 hj rfl
      obtain ⟨y, hy, rfl⟩ : ∃ y, xs[j]? = some y ∧ x = V.int y := by
        rw [List.getElem?_map] at hj
        cases e : xs[j]? with
        | none => rw [e] at hj; cases hj
        | some y => rw [e] at hj; exact ⟨y, rfl, (Option.some.inj hj).symm⟩
      have S2 := S.keep (same_new (o := .lst (((xs.take j).filter fun x => decide (x = g) || lies r L f x).map V.int)) hDl)
      obtain ⟨dx2, ho2⟩ := S2.ob
      have app : (decide (y = g) || lies r L f y) = true → ∃ acc, (upd H Dl (.lst (((xs.take j).filter fun x => decide (x = g) || lies r L f x).map V.int))) Dl = some (.lst acc) ∧ acc.length < sizeLine ∧
          upd (upd H Dl (.lst (((xs.take j).filter fun x => decide (x = g) || lies r L f x).map V.int))) Dl (.lst (acc ++ [V.int y])) = upd H Dl (.lst (((xs.take (j + 1)).filter fun x => decide (x = g) || lies r L f x).map V.int)) := fun hyes => by
        refine ⟨_, upd_same, smallL ?_, ?_⟩
        · rw [List.length_map]
          have := filt_len (fun x => decide (x = g) || lies r L f x) xs j
          omega
        · rw [upd_upd, filt_yes (f := fun x => decide (x = g) || lies r L f x) hy hyes, List.map_append]
          rfl
      refine ⟨rfl, _, rfl, _, rfl, rfl, _, rfl, ?_⟩
      refine ite2d (fun he => ?_) (fun hne => ?_)
      · have he' : y = g := V.int.inj he
        exact ⟨_, rfl, app (by rw [decide_eq_true he', Bool.true_or])⟩
      · have hne' : ¬ y = g := fun z => hne (congrArg V.int z)
        have hyo : y ∈ r.ord := (hxs y (List.mem_of_getElem? hy)).resolve_left hne'
        refine ⟨_, rfl, p, dx2, _, rfl, ho2, rfl, _, rfl, _, rfl, _, rfl, p, l, d, r, y, L, _, rfl, S2, hyo, hL, _, rfl, ?_⟩
        refine iteOf (fun hyes => ?_) (fun hno => ?_)
        · exact ⟨_, rfl, app (by rw [hyes, Bool.or_true])⟩
        · rw [filt_no (f := fun x => decide (x = g) || lies r L f x) hy (by rw [decide_eq_false hne', hno]; rfl)]
    · rintro H2 rfl
      rw [List.length_map, List.take_length]
      have s2 : Same H (upd H Dl (.lst ((xs.filter fun x => decide (x = g) || lies r L f x).map V.int))) := same_new hDl
      have hL2 : (upd H Dl (.lst ((xs.filter fun x => decide (x = g) || lies r L f x).map V.int))) Dl = some (.lst ((xs.filter fun x => decide (x = g) || lies r L f x).map V.int)) := upd_same
      have hi1000 : (xs.filter fun x => decide (x = g) || lies r L f x).length ≤ xs.length := List.length_filter_le ..
      generalize upd H Dl (.lst ((xs.filter fun x => decide (x = g) || lies r L f x).map V.int)) = H2 at *
      generalize (xs.filter fun x => decide (x = g) || lies r L f x) = ins at *
      -- list(zip(inside, spread(level, first, len(inside))))
      refine ⟨_, rfl, _, rfl, _, rfl, _, rfl, _, _, rfl, .inl (SqL.of hL2), ?_⟩
      rw [List.length_map]
      refine ⟨L, f, ins.length, rfl, hL, hf0, hf1, hins, by omega, fun sa hsa => ?_⟩
      refine ⟨Dl, sa, ins, (spreadL L f ins.length).map V.int, rfl, SqL.of ((same_new hsa) _ _ hL2), SqL.of upd_same, by rw [List.length_map, spread_len], fun H3 q as e1 e2 e3 e4 e5 e6 e7 => ?_⟩
      have s3 : Same H2 H3 := (same_new hsa).trans e1
      refine k H3 q as (s2.trans s3) ((s2.trans (same_new hsa)).free e2) (fun t ht => (s2.trans (same_new hsa)).free (e3 t ht)) e5 e6 fun i t m h1 h2 => ?_
      refine e7 i t (.int m) h1 ?_
      rw [List.getElem?_map, h2]
      rfl

/-! ### put -/
def StV (H : Hp) : V → Option (Nat × Int) → Prop
  | v, none => v = .non
  | v, some q => ∃ a, v = .ref a ∧ H a = some (.tup [.int (q.1 : Int), .int q.2])
/-- a list of pairs of ints -/
structure PairsAt (H : Hp) (a : Addr) (as : List Addr) (qs : List (Int × Int)) : Prop where
  li : H a = some (.lst (as.map V.ref))
  len : as.length = qs.length
  at_ : ∀ (i : Nat) (q : Int × Int), qs[i]? = some q → ∃ c, as[i]? = some c ∧ H c = some (.tup [.int q.1, .int q.2])
theorem PairsAt.keep {H H' : Hp} {a : Addr} {as : List Addr} {qs : List (Int × Int)} (S : PairsAt H a as qs) (e : Same H H') : PairsAt H' a as qs :=
  ⟨e _ _ S.li, S.len, fun i q h => let ⟨c, h1, h2⟩ := S.at_ i q h; ⟨c, h1, e _ _ h2⟩⟩
structure Told (H : Hp) (t ca : Addr) (cas : List Addr) (stv : V) (g : Nat) (st : Option (Nat × Int)) (ch : List (Int × Int)) : Prop where
  tu : H t = some (.tup [.int (g : Int), stv, .ref ca])
  ch : PairsAt H ca cas ch
  sv : StV H stv st
def spPut (C CF : Addr) : Sp := fun vs H Q E => ∃ (p l d : Addr) (r : R) (o : Option Int), vs = [.ref p, oneV o] ∧ RowAt C H p l d r ∧ Good r ∧ (∀ x, o = some x → x ∈ r.ord) ∧ r.ord.length < 200 ∧ r.given < 100000 ∧
  (marksFor r (placeOf r o) = none → ∀ H', Same H H' → E (.ref CF) none H') ∧
  (∀ st marked, marksFor r (placeOf r o) = some (st, marked) → ∀ H' l' t ca cas stv, (∀ b u, H b = some u → b ≠ p → b ≠ d → H' b = some u) → H l' = none → H ca = none → ca ≠ l' →
    RowAt C H' p l' d (putR r (placeOf r o) marked) → Told H' t ca cas stv r.given st (changedOf r marked) → Q (.ref t) H')
/-- one more pair behind the others -/
theorem PairsAt.more {H H' : Hp} {a c : Addr} {as : List Addr} {qs : List (Int × Int)} {q : Int × Int} (S : PairsAt H a as qs) (kp : ∀ b u, H b = some u → b ≠ a → H' b = some u) (hl : H' a = some (.lst (as.map V.ref ++ [V.ref c]))) (hc : H' c = some (.tup [.int q.1, .int q.2])) : PairsAt H' a (as ++ [c]) (qs ++ [q]) := by
  refine ⟨by rw [hl, List.map_append]; rfl, by rw [List.length_append, List.length_append, S.len]; rfl, fun i u h => ?_⟩
  rcases Nat.lt_trichotomy i qs.length with g | g | g
  · rw [List.getElem?_append_left g] at h
    obtain ⟨b, h1, h2⟩ := S.at_ i u h
    refine ⟨b, by rw [List.getElem?_append_left (by rw [S.len]; exact g)]; exact h1, kp b _ h2 (ne_of h2 S.li (by intro z; cases z))⟩
  · subst g
    have e : q = u := by simpa using h
    subst e
    exact ⟨c, by rw [← S.len]; simp, hc⟩
  · rw [List.getElem?_eq_none (by rw [List.length_append, List.length_singleton]; omega)] at h
    cases h
theorem place_le {r : R} {o : Option Int} (h : ∀ x, o = some x → x ∈ r.ord) : placeOf r o ≤ r.ord.length := by
  cases o with
  | none => exact Nat.zero_le _
  | some x => exact List.idxOf_lt_length_of_mem (h x rfl)
theorem ok_putF (T : Txt K mg C CF CB CN CT CS c1 c2) (M__place_behind : Met P w K mg base 2 C "_place_behind" (spPlace C) []) (M__marks_around : Met P w K mg base 1 C "_marks_around" (spAround C) [])
    (M__stretch_to_spread : MetX P w K mg base (L2.CX P w) 3 C "_stretch_to_spread" (spSeek C CF) []) (M__spread_marks : Met P w K mg base 3 C "_spread_marks" (spSpreadM C) [])
    {f : Addr} {fd : FuncData} (F : FunD K "put" "Row.put" (defArgs s_Row_put) (defBody s_Row_put) (defScope s_Row_put) [.non] [] f fd) : FnOk P w K mg base (L2.CX P w) 4 f fd ["self", "one"] (spPut C CF) := by
  refine F.ok sc_Row_put (fun vs H Q E h => ?_) (fun cdv A outer s H vs Q E hr h => ?_)
  · obtain ⟨_, _, _, _, _, rfl, _⟩ := h; rfl
  · obtain ⟨p, l, d, r, o, rfl, S, GR, ho, h200, hg, kN, kS⟩ := h
    have hpl := place_le ho
    refine ⟨_, (pss_cons (ps_set (i := 2) sc_Row_put.nd rfl (Or.inl rfl) (pe_mt M__place_behind hr (by decide) (pv 0) (pa_cons (pv 1) pa_nil)))
      (pss_cons (ps_if (pt_cmpR op_ge (pe_callB (id := "len") call_len_seq (by rfl) T.n_len (by decide +kernel) (pa_cons (pe_fld (pv 0) rfl) pa_nil)) (pe_gc (by rfl) T.g_MOST_THINGS) (nomark _)) (pss_one ps_never) pss_nil)
      (pss_cons (ps_set (i := 3) sc_Row_put.nd rfl (Or.inr rfl) (pe_fld (pv 0) rfl))
      (pss_cons (ps_set (i := 4) sc_Row_put.nd rfl (Or.inl rfl) (pe_op op_cat (pe_op op_cat (pe_slice sl_list (pe_fld (pv 0) rfl) po_none (po_some (pv 2))) (pe_lst (pa_cons (pv 3) pa_nil))) (pe_slice sl_list (pe_fld (pv 0) rfl) (po_some (pv 2)) po_none)))
      (pss_cons (ps_asg (pe_mt M__marks_around hr (by decide) (pv 0) (pa_cons (pv 2) pa_nil)) (pg_tup rfl (pgs_cons (pg_name (i := 5) sc_Row_put.nd rfl (Or.inl rfl)) (pgs_cons (pg_name (i := 6) sc_Row_put.nd rfl (Or.inl rfl)) pgs_nil))))
      (pss_cut (ps_if (pt_cmpR op_ge (pe_op op_sub (pv 6) (pv 5)) pe_int (nomark _)) (pss_cons (ps_set (i := 7) sc_Row_put.nd rfl (Or.inl rfl) pe_non)
      (pss_one (ps_set (i := 8) sc_Row_put.nd rfl (Or.inl rfl) (pe_lst (pa_cons (pe_tup (pa_cons (pv 3) (pa_cons (pe_op op_fdivW (pe_op op_add (pv 5) (pv 6)) pe_int) pa_nil))) pa_nil))))) (pss_cons (ps_set (i := 7) sc_Row_put.nd rfl (Or.inl rfl) (pe_mtX M__stretch_to_spread hr (by decide) (passes_call (takes_of rfl rfl rfl rfl) fun _ _ _ _ q => q) (pv 0) (pa_cons (pe_callB (id := "max") (call_max2 rfl) (by rfl) T.n_max (by decide +kernel) (pa_cons (pv 5) (pa_cons pe_int pa_nil))) pa_nil)))
      (pss_one (ps_set (i := 8) sc_Row_put.nd rfl (Or.inl rfl) (pe_mt M__spread_marks hr (by decide) (pv 0) (pa_cons (pv 7) (pa_cons (pv 4) (pa_cons (pv 3) pa_nil))))))))
      (pss_cons (ps_setLc (i := 11) (own := [("thing", 9), ("mark", 10)]) (g := (gTup K 2 (gCons (gName 9) (gCons (gName 10) gNil)))) rfl sc_Row_put.nd rfl rfl (sw_true rfl rfl rfl (by decide +kernel)) (pi_list (pv 8)) (blkOk_by (own := [("thing", 9), ("mark", 10)]) (N := ["self", "one", "place", "number", "order", "ahead", "behind", "stretch", "marked", "thing", "mark", "changed"]) (sc := defScope s_Row_put) (by decide +kernel)) (fun _ _ _ _ _ => (pg_tup rfl (pgs_cons (pg_name (i := 9) sc_Row_put.nd rfl (Or.inl rfl)) (pgs_cons (pg_name (i := 10) sc_Row_put.nd rfl (Or.inl rfl)) pgs_nil)))) (fun _ _ _ _ _ => pts_one (by exact (PW.pt (pw_and (pt_cmpR op_ne (pv 9) (pv 3) (nomark _)) (pw_and1 (pt_cmpR (ta := tDGet (tFld K (tVar 0) "_marks") (tVar 9)) op_ne (by exact pe_dget (by exact hu_of hr) (by exact pe_fld (pv 0) rfl) (pv 9) (fun _ _ => rfl)) (pv 10) (nomark _))))))) (fun _ _ _ _ _ => (pe_tup (pa_cons (pv 9) (pa_cons (pv 10) pa_nil)))))
      (pss_cons (ps_for (passes_of rfl) rfl (pi_list (pv 8)) (pg_tup rfl (pgs_cons (pg_name (i := 9) sc_Row_put.nd rfl (Or.inl rfl)) (pgs_cons (pg_name (i := 10) sc_Row_put.nd rfl (Or.inl rfl)) pgs_nil)))
        (pss_one (ps_dput (by exact hu_of hr) (pe_fld (pv 0) rfl) (pv 9) (pv 10) rfl)))
      (pss_cons (ps_fld (pv 0) (pv 4) rfl)
      (pss_cons (ps_fld (pv 0) (pe_op op_add (pv 3) pe_int) rfl)
      (pss_cons (ps_fld (pv 0) (pe_op op_sub (pe_op op_add (pe_fld (pv 0) rfl) (pe_op op_mulW (pe_gc (by rfl) T.g_PAID_FOR_EACH_WIDE) (pe_fld (pv 0) rfl))) (pe_callB (id := "len") call_len_seq (by rfl) T.n_len (by decide +kernel) (pa_cons (pv 11) pa_nil))) rfl)
      (pss_one (ps_ret (pe_tup (pa_cons (pv 3) (pa_cons (pv 7) (pa_cons (pv 11) pa_nil))))))))))))))))), ?_⟩
    obtain ⟨⟨dx, hob⟩, hl, kvs, hd, hkn, D⟩ := id S
    have h60 := GR.w60
    have hlen := GR.len
    -- place
    refine ⟨_, rfl, p, dx, _, rfl, hob, rfl, _, rfl, p, l, d, r, o, rfl, S, ho, ?_⟩
    generalize hP : placeOf r o = n at *
    -- the length
    refine ⟨_, rfl, p, C, dx, _, _, rfl, hob, T.cl, T.nO, fl_order .., l, _, rfl, .inl (SqL.of hl), _, _, rfl, rfl, _, rfl, ?_⟩
    rw [List.length_map]
    refine iteFd (by omega) ?_
    -- number
    refine ⟨_, rfl, p, C, dx, _, _, rfl, hob, T.cl, T.nG, fl_given .., ?_⟩
    -- order
    refine ⟨_, rfl, p, C, dx, _, _, rfl, hob, T.cl, T.nO, fl_order .., _, rfl, _, rfl, l, _, rfl, SqL.of hl, fun a1 ha1 => ?_⟩
    rw [cut_to, ← List.map_take]
    refine ⟨_, rfl, small (by show 1 ≤ 100000; decide), fun a2 ha2 => ?_⟩
    have n12 : a1 ≠ a2 := fun e => by rw [← e, upd_same] at ha2; cases ha2
    refine ⟨a1, a2, _, [.int (r.given : Int)], rfl, rfl, by rw [upd_ne n12, upd_same], upd_same, small (by rw [List.length_map]; show (r.ord.take n).length + 1 ≤ _; have := List.length_take_le' n r.ord; omega), fun a3 ha3 => ?_⟩
    have s3 : Same H (upd (upd (upd H a1 (.lst ((r.ord.take n).map V.int))) a2 (.lst [.int (r.given : Int)])) a3 (.lst ((r.ord.take n).map V.int ++ [.int (r.given : Int)]))) := ((same_new ha1).trans (same_new ha2)).trans (same_new ha3)
    have hL3 : (upd (upd (upd H a1 (.lst ((r.ord.take n).map V.int))) a2 (.lst [.int (r.given : Int)])) a3 (.lst ((r.ord.take n).map V.int ++ [.int (r.given : Int)]))) a3 = some (.lst ((r.ord.take n).map V.int ++ [.int (r.given : Int)])) := upd_same
    generalize upd (upd (upd H a1 (.lst ((r.ord.take n).map V.int))) a2 (.lst [.int (r.given : Int)])) a3 (.lst ((r.ord.take n).map V.int ++ [.int (r.given : Int)])) = H3 at *
    refine ⟨_, rfl, p, C, dx, _, _, rfl, s3 _ _ hob, T.cl, T.nO, fl_order .., _, rfl, _, rfl, l, _, rfl, SqL.of (s3 _ _ hl), fun a4 ha4 => ?_⟩
    rw [cut_from, ← List.map_drop]
    refine ⟨a3, a4, _, _, rfl, rfl, (same_new ha4) _ _ hL3, upd_same, small (by rw [List.length_append, List.length_map, List.length_map, List.length_take, List.length_drop]; show _ + 1 + _ ≤ _; omega), fun oa hoa => ?_⟩
    have s5 : Same H (upd (upd H3 a4 (.lst ((r.ord.drop n).map V.int))) oa (.lst ((r.ord.take n).map V.int ++ [.int (r.given : Int)] ++ (r.ord.drop n).map V.int))) := (s3.trans (same_new ha4)).trans (same_new hoa)
    have hO5 : (upd (upd H3 a4 (.lst ((r.ord.drop n).map V.int))) oa (.lst ((r.ord.take n).map V.int ++ [.int (r.given : Int)] ++ (r.ord.drop n).map V.int))) oa = some (.lst ((ordIns r n).map V.int)) := by
      rw [upd_same]
      unfold ordIns
      rw [List.map_append, List.map_append]
      rfl
    have hoaH : H oa = none := (s3.trans (same_new ha4)).free hoa
    generalize upd (upd H3 a4 (.lst ((r.ord.drop n).map V.int))) oa (.lst ((r.ord.take n).map V.int ++ [.int (r.given : Int)] ++ (r.ord.drop n).map V.int)) = H5 at *
    have S5 := S.keep s5
    -- ahead, behind
    refine ⟨_, rfl, p, dx, _, rfl, s5 _ _ hob, rfl, _, rfl, p, l, d, r, n, rfl, S5, GR, hpl, fun t6 ht6 => ?_⟩
    refine ⟨t6, _, rfl, SqT.of upd_same, rfl, _, _, rfl, _, _, rfl, rfl, ?_⟩
    have s6 : Same H (upd H5 t6 (.tup [.int (aheadM r n), .int (behindM r n)])) := s5.trans (same_new ht6)
    have hO6 := (same_new (o := .tup [.int (aheadM r n), .int (behindM r n)]) ht6) _ _ hO5
    generalize upd H5 t6 (.tup [.int (aheadM r n), .int (behindM r n)]) = H6 at *
    have S6 := S.keep s6
    -- the two ways to the new marks
    refine ⟨fun σ' H' => ∃ st marked ma as stv, marksFor r n = some (st, marked) ∧ Same H6 H' ∧ PairsAt H' ma as marked ∧ StV H' stv st ∧
      σ' = [some (.ref p), some (oneV o), some (.int (n : Int)), some (.int (r.given : Int)), some (.ref oa), some (.int (aheadM r n)), some (.int (behindM r n)), some stv, some (.ref ma), none, none, none], ?_, ?_⟩
    · refine ⟨_, rfl, _, rfl, _, _, rfl, rfl, _, _, rfl, rfl, _, rfl, ?_⟩
      refine ite2d (fun hgap => ?_) (fun hno => ?_)
      · -- there is room
        refine ⟨_, rfl, _, rfl, _, rfl, _, _, rfl, rfl, _, _, rfl, rfl, ⟨by decide, by decide⟩, small (by show 2 ≤ 100000; decide), fun t7 ht7 => ?_⟩
        refine ⟨small (by show 1 ≤ 100000; decide), fun ma hma => ?_⟩
        refine ⟨none, _, ma, [t7], .non, if_pos hgap, (same_new ht7).trans (same_new hma), ⟨upd_same, rfl, fun i q hq => ?_⟩, rfl, rfl⟩
        cases i with
        | zero =>
          have e := Option.some.inj hq
          subst e
          exact ⟨t7, rfl, (same_new hma) _ _ upd_same⟩
        | succ i => simp at hq
      · -- there is none
        have em : (if (0 : Int) > aheadM r n then (0 : Int) else aheadM r n) = max (aheadM r n) 0 := by
          split <;> omega
        have hlt := ahead_lt GR hpl
        have hm0 : (0 : Int) ≤ max (aheadM r n) 0 := by omega
        have hm1 : max (aheadM r n) 0 < 2 ^ r.wide := by
          have := two_pow_pos r.wide
          omega
        have hm2 : max (aheadM r n) 0 < 2 ^ 60 := Int.lt_of_lt_of_le hm1 (two_pow_le h60)
        have hmf : marksFor r n = match findL r (max (aheadM r n) 0) with
          | none => none
          | some L => some (some (L, baseM (max (aheadM r n) 0) L), (inside r n L (baseM (max (aheadM r n) 0) L)).zip (spreadL L (baseM (max (aheadM r n) 0) L) (inside r n L (baseM (max (aheadM r n) 0) L)).length)) := if_neg hno
        refine ⟨_, rfl, p, dx, _, rfl, s6 _ _ hob, rfl, _, rfl, _, _, rfl, p, l, d, r, _, rfl, S6, GR, by rw [em]; exact hm0, by rw [em]; exact hm1, fun hnone H' e' => ?_, fun L hL H7 t7 s7 ht7 hT7 => ?_⟩
        · rw [em] at hnone
          rw [hnone] at hmf
          exact kN hmf H' (s6.trans e')
        · rw [em] at hL hT7
          rw [hL] at hmf
          obtain ⟨hfit, hLw, _⟩ := findL_fits hL
          have S7 := S6.keep s7
          have hins : (inside r n L (baseM (max (aheadM r n) 0) L)).length ≤ 2 ^ L := by
            rw [inside_len GR]
            exact fits_le hfit
          have hb0 := baseM_lo (l := L) hm0
          have hb1 := baseM_le (m := max (aheadM r n) 0) (l := L)
          refine ⟨_, rfl, p, dx, _, rfl, s7 _ _ (s6 _ _ hob), rfl, _, rfl, _, rfl, _, rfl, p, l, d, t7, oa, r, _, L, _, ordIns r n, rfl, S7, hT7, s7 _ _ hO6, fun x hx => mem_ins.mp hx, by omega, hb0, by omega, by rw [ins_len]; omega, hins, fun H8 ma as e1 e2 e3 e4 e5 e6 => ?_⟩
          refine ⟨_, _, ma, as, .ref t7, hmf, s7.trans e1, ⟨e4, ?_, fun i q hq => ?_⟩, ⟨t7, rfl, e1 _ _ hT7⟩, rfl⟩
          · rw [e5, List.length_zip, spread_len, Nat.min_self]
            rfl
          · obtain ⟨g1, g2⟩ := List.getElem?_zip_eq_some.mp hq
            exact e6 i q.1 q.2 g1 g2
    · rintro σ H7 ⟨st, marked, ma, as, stv, hmf, s7, PA, SV, rfl⟩
      have M := marks_ok GR hmf
      have S7 := S6.keep s7
      have s07 := s6.trans s7
      have hO7 := s7 _ _ hO6
      obtain ⟨dx7, hob7⟩ := S7.ob
      obtain ⟨kvs7, hd7, hkn7, D7⟩ := S7.di
      have hM := M.len
      have pick : ∀ (i : Nat) (x : V), (as.map V.ref)[i]? = some x → ∃ q c, marked[i]? = some q ∧ x = .ref c ∧ H7 c = some (.tup [.int q.1, .int q.2]) := fun i x hx => by
        have hi : i < marked.length := by
          have := (List.getElem?_eq_some_iff.mp hx).1
          rw [List.length_map, PA.len] at this
          exact this
        obtain ⟨c, h1, h2⟩ := PA.at_ i _ (List.getElem?_eq_getElem hi)
        refine ⟨_, c, List.getElem?_eq_getElem hi, ?_, h2⟩
        rw [List.getElem?_map, h1] at hx
        exact (Option.some.inj hx).symm
      -- changed
      refine ⟨_, rfl, ma, rfl, ⟨_, SqL.of PA.li⟩, fun ca hca => ?_⟩
      refine lc_list (K := K) (a := ma) (xs := as.map V.ref) (fun i H' => Same H7 H' ∧ ∃ cas, PairsAt H' ca cas (changedOf r (marked.take i))) ⟨same_new hca, [], ⟨upd_same, rfl, fun i q hq => by simp [changedOf] at hq⟩⟩ (fun i H' _ p => p.1.seq (SqL.of PA.li)) ?_ ?_
      · rintro i x H8 hx ⟨s8, cas, PC⟩
        obtain ⟨q, c, hq, rfl, hc⟩ := pick i x hx
        have hcl : cas.length ≤ 201 := by
          rw [PC.len]
          unfold changedOf
          have := filt_len (fun q : Int × Int => decide (q.1 ≠ (r.given : Int)) && decide (r.mrk q.1 ≠ q.2)) marked i
          omega
        refine ⟨c, _, rfl, SqT.of (s8 _ _ hc), rfl, _, _, rfl, _, _, rfl, rfl, rfl, _, rfl, _, rfl, rfl, _, rfl, ?_⟩
        by_cases hne : q.1 = (r.given : Int)
        · have e1 : (!decide (V.int q.1 = V.int (r.given : Int))) = false := by rw [hne]; simp
          rw [e1]
          refine iteF ?_
          refine iteF ?_
          refine ⟨s8, cas, ?_⟩
          have e2 : changedOf r (marked.take (i + 1)) = changedOf r (marked.take i) := filt_no (f := fun q : Int × Int => decide (q.1 ≠ (r.given : Int)) && decide (r.mrk q.1 ≠ q.2)) hq (by simp [hne])
          rw [e2]
          exact PC
        · have e1 : (!decide (V.int q.1 = V.int (r.given : Int))) = true := by
            have : ¬ V.int q.1 = V.int (r.given : Int) := fun z => hne (V.int.inj z)
            rw [decide_eq_false this]
            rfl
          rw [e1]
          refine iteT ?_
          have hqo : q.1 ∈ r.ord := (M.keys q (List.mem_of_getElem? hq)).resolve_left hne
          have hv : valV kvs7 (Sum.inl q.1) = some (.int (r.mrk q.1)) := by rw [D7.get, if_pos hqo]
          refine ⟨_, rfl, p, C, dx7, _, _, rfl, s8 _ _ hob7, T.cl, T.nM, fl_marks .., _, rfl, d, _, rfl, by rw [← hv]; exact DGet.k (k := Sum.inl q.1) (s8 _ _ hd7), _, rfl, rfl, _, rfl, ?_⟩
          by_cases heq : r.mrk q.1 = q.2
          · refine iteNS (congrArg V.int heq) ?_
            refine ⟨s8, cas, ?_⟩
            have e2 : changedOf r (marked.take (i + 1)) = changedOf r (marked.take i) := filt_no (f := fun q : Int × Int => decide (q.1 ≠ (r.given : Int)) && decide (r.mrk q.1 ≠ q.2)) hq (by simp [heq])
            rw [e2]
            exact PC
          · refine iteNT (fun z => heq (V.int.inj z)) ?_
            refine ⟨_, rfl, _, rfl, small (by show 2 ≤ 100000; decide), fun c2 hc2 => ?_⟩
            have nc : ca ≠ c2 := ne_of_none PC.li hc2
            refine ⟨_, by rw [upd_ne nc]; exact PC.li, smallL (by rw [List.length_map]; omega), ?_⟩
            have kp : ∀ b u, H8 b = some u → b ≠ ca → (upd (upd H8 c2 (.tup [.int q.1, .int q.2])) ca (.lst (cas.map V.ref ++ [V.ref c2]))) b = some u := fun b u e hb => by
              rw [upd_ne hb, upd_ne (ne_of_none e hc2)]
              exact e
            have e2 : changedOf r (marked.take (i + 1)) = changedOf r (marked.take i) ++ [q] := filt_yes (f := fun q : Int × Int => decide (q.1 ≠ (r.given : Int)) && decide (r.mrk q.1 ≠ q.2)) hq (by simp [hne, heq])
            refine ⟨fun b u e => kp b u (s8 b u e) (ne_of_none e hca), cas ++ [c2], ?_⟩
            rw [e2]
            exact PC.more kp upd_same (by rw [upd_ne nc.symm, upd_same])
      · rintro H8 ⟨s8, cas, PC⟩
        rw [List.length_map, PA.len, List.take_length] at PC
        have s08 := s07.trans s8
        have hcaH : H ca = none := s07.free hca
        have ncl : ca ≠ oa := (ne_of_none hO7 hca).symm
        have hO8 := s8 _ _ hO7
        have hd8 := s8 _ _ hd7
        have hob8 := s8 _ _ hob7
        have PA8 := PA.keep s8
        have SV8 : StV H8 stv st := by
          cases st with
          | none => exact SV
          | some q => obtain ⟨a, h1, h2⟩ := SV; exact ⟨a, h1, s8 _ _ h2⟩
        have npd := S.npd
        -- the marks
        refine ⟨_, rfl, ma, rfl, ⟨_, SqL.of PA8.li⟩, for_list (K := K) (a := ma) (xs := as.map V.ref) (fun i σ H' => (∀ b u, H8 b = some u → b ≠ d → H' b = some u) ∧ (∃ kvs', H' d = some (.dK kvs') ∧ DMid r (marked.take i) kvs') ∧ ∃ z9 z10, σ = [some (.ref p), some (oneV o), some (.int (n : Int)), some (.int (r.given : Int)), some (.ref oa), some (.int (aheadM r n)), some (.int (behindM r n)), some stv, some (.ref ma), z9, z10, some (.ref ca)])
          ⟨fun b u e _ => e, ⟨kvs7, hd8, DMid.start D7 hkn7⟩, none, none, rfl⟩ (fun i σ H' _ q => SqL.of (q.1 _ _ PA8.li (ne_of PA8.li hd8 (by intro z; cases z)))) ?_ ?_⟩
        · rintro i x σ H9 hx ⟨k9, ⟨kvs9, hd9, M9⟩, z9, z10, rfl⟩
          obtain ⟨q, c, hq, rfl, hc⟩ := pick i x hx
          have hc9 := k9 c _ (s8 _ _ hc) (ne_of (s8 _ _ hc) hd8 (by intro z; cases z))
          refine ⟨c, _, rfl, SqT.of hc9, rfl, _, _, rfl, _, _, rfl, rfl, ?_⟩
          have hl9 : kvs9.length < sizeLine := smallL (by have := M9.le; have := GR.few; omega)
          refine ⟨_, rfl, _, rfl, p, C, dx7, _, _, rfl, k9 _ _ hob8 npd, T.cl, T.nM, fl_marks .., _, rfl, d, _, rfl, DPut.k (k := Sum.inl q.1) hd9 hl9, ?_⟩
          refine ⟨fun b u e hb => by rw [upd_ne hb]; exact k9 b u e hb, ⟨_, upd_same, ?_⟩, _, _, rfl⟩
          have e2 : marked.take (i + 1) = marked.take i ++ [q] := by rw [List.take_add_one, hq]; rfl
          rw [e2]
          exact M9.step GR (M.keys q (List.mem_of_getElem? hq))
        · rintro σ H9 ⟨k9, ⟨kvs9, hd9, M9⟩, z9, z10, rfl⟩
          rw [List.length_map, PA.len, List.take_length] at M9
          have hob9 := k9 _ _ hob8 npd
          have nod : oa ≠ d := ne_of hO8 hd8 (by intro z; cases z)
          have nop : oa ≠ p := ne_of hO8 hob8 (by intro z; cases z)
          have ncd : ca ≠ d := ne_of PC.li hd8 (by intro z; cases z)
          have ncp : ca ≠ p := ne_of PC.li hob8 (by intro z; cases z)
          have hO9 := k9 _ _ hO8 nod
          have hC9 := k9 _ _ PC.li ncd
          have hcl : (cas.map V.ref).length = (changedOf r marked).length := by rw [List.length_map, PC.len]
          -- self._order = order
          refine ⟨_, rfl, _, rfl, p, C, dx7, _, rfl, hob9, T.cl, T.nO, (by show 5 < 1000; decide), ?_⟩
          rw [fl_put_order]
          -- self._given = number + 1
          refine ⟨_, rfl, _, _, rfl, rfl, _, rfl, p, C, dx7, _, rfl, upd_same, T.cl, T.nG, (by show 5 < 1000; decide), ?_⟩
          rw [upd_upd, fl_put_given]
          -- self._purse
          refine ⟨_, rfl, p, C, dx7, _, _, rfl, upd_same, T.cl, T.nP, fl_purse .., _, rfl, p, C, dx7, _, _, rfl, upd_same, T.cl, T.nW, fl_wide .., _, _, rfl, rfl, wide_mul (show (8 : Int).natAbs < 2 ^ 4 by decide) (show (r.wide : Int).natAbs < 2 ^ 10 by omega) (by decide) (by decide) (by decide), _, _, rfl, rfl, ?_⟩
          refine ⟨_, rfl, ca, _, rfl, .inl (SqL.of (by rw [upd_ne ncp]; exact hC9)), _, _, rfl, rfl, _, rfl, p, C, dx7, _, rfl, upd_same, T.cl, T.nP, (by show 5 < 1000; decide), ?_⟩
          rw [upd_upd, fl_put_purse, hcl]
          -- return
          refine ⟨_, rfl, _, rfl, _, rfl, small (by show 3 ≤ 100000; decide), fun t ht => ?_⟩
          have kAll : ∀ b u, H8 b = some u → b ≠ p → b ≠ d → (upd (upd H9 p (.ins C dx7 (flds (r.wide : Int) oa d ((r.given : Int) + 1) (r.purse + 8 * (r.wide : Int) - ((changedOf r marked).length : Int))))) t (.tup [.int (r.given : Int), stv, .ref ca])) b = some u := fun b u e hp hd => by
            have e9 := k9 b u e hd
            rw [upd_ne (ne_of_none (by rw [upd_ne hp]; exact e9) ht), upd_ne hp]
            exact e9
          have ntp : p ≠ t := ne_of_none upd_same ht
          have ntd : d ≠ t := ne_of_none (by rw [upd_ne npd.symm]; exact hd9) ht
          refine kS st marked hmf _ oa t ca cas stv (fun b u e hp hd => kAll b u (s08 b u e) hp hd) hoaH hcaH ncl ⟨⟨dx7, ?_⟩, kAll oa _ hO8 nop nod, kvs9, ?_, M9.le, M9.done M⟩ ⟨upd_same, ⟨kAll ca _ PC.li ncp ncd, PC.len, fun i q hq => ?_⟩, ?_⟩
          · rw [upd_ne ntp, upd_same]
            rfl
          · rw [upd_ne ntd, upd_ne npd.symm]
            exact hd9
          · obtain ⟨c, h1, h2⟩ := PC.at_ i q hq
            exact ⟨c, h1, kAll c _ h2 (ne_of h2 hob8 (by intro z; cases z)) (ne_of h2 hd8 (by intro z; cases z))⟩
          · cases st with
            | none => exact SV8
            | some q =>
              obtain ⟨a, h1, h2⟩ := SV8
              exact ⟨a, h1, kAll a _ h2 (ne_of h2 hob8 (by intro z; cases z)) (ne_of h2 hd8 (by intro z; cases z))⟩
/-- put(one), put() -/
theorem ok_put (T : Txt K mg C CF CB CN CT CS c1 c2) (h : ∀ {f : Addr} {fd : FuncData}, FunD K "put" "Row.put" (defArgs s_Row_put) (defBody s_Row_put) (defScope s_Row_put) [.non] [] f fd → FnOk P w K mg base (L2.CX P w) 4 f fd ["self", "one"] (spPut C CF)) :
    MetX P w K mg base (L2.CX P w) 4 C "put" (spPut C CF) [] ∧ MetX P w K mg base (L2.CX P w) 4 C "put" (spPut C CF) [.non] := by
  obtain ⟨f, fd, F, hm, b1, ds, dv, b0⟩ := T.m_put.ex
  exact ⟨⟨f, fd, _, _, T.cl, hm, h F, b1, .nil⟩, ⟨f, fd, _, _, T.cl, hm, h F, b0, dv⟩⟩

/-! ### a new row; taking; what is told -/
def newR (n : Nat) : R := ⟨n, 0, 0, [], fun _ => 0⟩
def spInit (C : Addr) : Sp := fun vs H Q _ => ∃ (p dx : Addr) (n : Nat) (wv : Int), vs = [.ref p, .int wv] ∧ wv = (n : Int) ∧ H p = some (.ins C dx []) ∧ 4 ≤ n ∧ n ≤ 60 ∧ ∀ H' l d, (∀ b u, H b = some u → b ≠ p → H' b = some u) → H l = none → H d = none → RowAt C H' p l d (newR n) → Q .non H'
theorem ok_init (T : Txt K mg C CF CB CN CT CS c1 c2) (G_check_within : Cal P w K mg base 1 "check_within" spCheck []) : Mak P w K mg base 2 "Row" C (spInit C) [] := by
  obtain ⟨f, fd, M, F, b⟩ := T.mkRow.ex
  refine ⟨f, fd, _, _, M, F.ok sc_Row___init__ (fun vs H Q E h => ?_) (fun cdv A outer s H vs Q E hr h => ?_), T.gRow, b, .nil⟩
  · obtain ⟨_, _, _, _, rfl, _⟩ := h; rfl
  · obtain ⟨p, dx, n, _, rfl, rfl, hp, h4, h60, k⟩ := h
    refine ⟨_, (pss_cons (ps_expr (pe_c G_check_within hr (by decide) rfl (pa_cons (pv 1) (pa_cons (pe_gc (by rfl) T.g_LEAST_WIDE) (pa_cons (pe_gc (by rfl) T.g_MOST_WIDE) pa_nil)))))
      (pss_cons (ps_fld (pv 0) (pv 1) rfl)
      (pss_cons (ps_fld (pv 0) (pe_lst pa_nil) rfl)
      (pss_cons (ps_fld (pv 0) pe_dnewK rfl)
      (pss_cons (ps_fld (pv 0) pe_int rfl)
      (pss_one (ps_fld (pv 0) pe_int rfl))))))), ?_⟩
    refine ⟨_, rfl, _, _, _, rfl, by omega, by omega, ?_⟩
    refine ⟨_, rfl, _, rfl, p, C, dx, [], rfl, hp, T.cl, T.nW, (by show 0 < 1000; decide), ?_⟩
    refine ⟨Nat.zero_le _, fun l hl => ?_⟩
    have npl : p ≠ l := ne_of_none upd_same hl
    refine ⟨_, rfl, p, C, dx, _, rfl, by rw [upd_ne npl, upd_same], T.cl, T.nO, (by show 1 < 1000; decide), ?_⟩
    intro d hd
    have npd : p ≠ d := ne_of_none upd_same hd
    have nld : l ≠ d := fun e => by rw [← e, upd_ne npl.symm, upd_same] at hd; cases hd
    refine ⟨_, rfl, p, C, dx, _, rfl, by rw [upd_ne npd, upd_same], T.cl, T.nM, (by show 2 < 1000; decide), ?_⟩
    refine ⟨_, rfl, p, C, dx, _, rfl, upd_same, T.cl, T.nG, (by show 3 < 1000; decide), ?_⟩
    refine ⟨_, rfl, p, C, dx, _, rfl, upd_same, T.cl, T.nP, (by show 4 < 1000; decide), ?_⟩
    have hlH : H l = none := by rw [upd_ne npl.symm] at hl; exact hl
    have hdH : H d = none := by rw [upd_ne npd.symm, upd_ne nld.symm, upd_ne npd.symm] at hd; exact hd
    refine k _ l d (fun b u e hb => ?_) hlH hdH ⟨⟨dx, upd_same⟩, ?_, [], ?_, Nat.zero_le _, List.nodup_nil, fun x => ?_⟩
    · rw [upd_ne hb, upd_ne hb, upd_ne hb, upd_ne (ne_of_none e hdH), upd_ne hb, upd_ne (ne_of_none e hlH), upd_ne hb]
      exact e
    · rw [upd_ne npl.symm, upd_ne npl.symm, upd_ne npl.symm, upd_ne nld, upd_ne npl.symm, upd_same]
      rfl
    · rw [upd_ne npd.symm, upd_ne npd.symm, upd_ne npd.symm, upd_same]
    · rfl
theorem good_new {n : Nat} (h4 : 4 ≤ n) (h60 : n ≤ 60) : Good (newR n) := ⟨h4, h60, List.nodup_nil, (fun x h => by cases h), Nat.zero_le _, (fun x h => by cases h), (fun x h => by cases h), .nil, Nat.zero_le _⟩
theorem valV_drop (kvs : List (Key × V)) (k j : Key) : valV (dropK kvs k) j = if j = k then none else valV kvs j := by
  induction kvs with
  | nil => rw [show dropK ([] : List (Key × V)) k = [] from rfl, valV_nil]; simp
  | cons q r ih =>
    by_cases e : q.1 = k
    · rw [dropK_pos e, ih]
      by_cases g : j = k
      · rw [if_pos g, if_pos g]
      · rw [if_neg g, if_neg g, valV_neg (by rw [e]; exact fun z => g z.symm)]
    · rw [dropK_neg e]
      by_cases g : q.1 = j
      · rw [valV_pos g, valV_pos g, if_neg (by rw [← g]; exact e)]
      · rw [valV_neg g, valV_neg g, ih]
def spTake (C : Addr) : Sp := fun vs H Q _ => ∃ (p l d : Addr) (r : R) (x : Int), vs = [.ref p, .int x] ∧ RowAt C H p l d r ∧ Good r ∧ x ∈ r.ord ∧ ∀ H', (∀ b u, H b = some u → b ≠ l → b ≠ d → H' b = some u) → RowAt C H' p l d (takeR r x) → Q .non H'
theorem ok_take (T : Txt K mg C CF CB CN CT CS c1 c2) (M__check_thing : Met P w K mg base 1 C "_check_thing" (spChk C) []) : Met P w K mg base 2 C "take" (spTake C) [] := by
  obtain ⟨f, fd, ds, F, hm, b, dv⟩ := T.m_take.ex
  refine ⟨f, fd, _, _, T.cl, hm, F.ok sc_Row_take (fun vs H Q E h => ?_) (fun cdv A outer s H vs Q E hr h => ?_), b, dv⟩
  · obtain ⟨_, _, _, _, _, rfl, _⟩ := h; rfl
  · obtain ⟨p, l, d, r, x, rfl, S, GR, hx, k⟩ := h
    obtain ⟨⟨dx, ho⟩, hl, kvs, hd, hn, D⟩ := id S
    refine ⟨_, (pss_cons (ps_expr (pe_mt M__check_thing hr (by decide) (pv 0) (pa_cons (pv 1) pa_nil)))
      (pss_cons (ps_expr (pe_bm PySem.F.plainAttrs_list PySem.F.slot_list_remove PySem.F.type_list_remove mt_remove (pe_fld (pv 0) rfl) (pa_cons (pv 1) pa_nil)))
      (pss_one (ps_ddel (pe_fld (pv 0) rfl) (pv 1))))), ?_⟩
    refine ⟨_, rfl, p, dx, _, rfl, ho, rfl, _, rfl, p, l, d, r, x, rfl, S, hx, ?_⟩
    have hlt := List.idxOf_lt_length_of_mem hx
    refine ⟨_, rfl, p, C, dx, _, _, rfl, ho, T.cl, T.nO, fl_order .., .inl ⟨rfl, _, SqL.of hl⟩, _, rfl, l, r.ord, x, r.ord.idxOf x, rfl, rfl, hl, by rw [List.getElem?_eq_getElem hlt, List.getElem_idxOf], fun m hm e => ?_, ?_⟩
    · have := List.not_of_lt_findIdx (p := (· == x)) (xs := r.ord) hm
      have hml : m < r.ord.length := Nat.lt_trans hm hlt
      rw [List.getElem?_eq_getElem hml] at e
      have e2 := Option.some.inj e
      simp [e2] at this
    · have npl := S.npl
      have npd := S.npd
      have nld := S.nld
      have hv : valV kvs (Sum.inl x) = some (.int (r.mrk x)) := by rw [D.get, if_pos hx]
      refine ⟨_, rfl, p, C, dx, _, _, rfl, by rw [upd_ne npl]; exact ho, T.cl, T.nM, fl_marks .., _, rfl, d, kvs, Sum.inl x, rfl, by rw [upd_ne nld.symm]; exact hd, rfl, by rw [hv]; rfl, ?_⟩
      refine k _ (fun b u e hb1 hb2 => by rw [upd_ne hb2, upd_ne hb1]; exact e) ⟨⟨dx, by rw [upd_ne npd, upd_ne npl]; exact ho⟩, ?_, _, upd_same, Nat.le_trans (dropK_le ..) hn, nd_dropK D.nd, fun y => ?_⟩
      · rw [upd_ne nld, upd_same, ← List.erase_eq_eraseIdx_of_idxOf rfl]
        rfl
      · rw [valV_drop, D.get]
        show _ = if y ∈ r.ord.erase x then some (V.int (r.mrk y)) else none
        by_cases e : y = x
        · rw [if_pos (by rw [e]), if_neg]
          rw [GR.nd.mem_erase_iff]
          exact fun z => z.1 e
        · rw [if_neg (fun z => e (Sum.inl.inj z))]
          have e2 : y ∈ r.ord.erase x ↔ y ∈ r.ord := by
            rw [GR.nd.mem_erase_iff]
            exact ⟨fun z => z.2, fun z => ⟨e, z⟩⟩
          simp only [e2]
theorem good_take {r : R} {x : Int} (G : Good r) : Good (takeR r x) :=
  ⟨G.w4, G.w60, G.nd.erase x, fun y h => G.num y (List.mem_of_mem_erase h), Nat.le_trans (List.length_erase_le ..) G.len, fun y h => G.lo y (List.mem_of_mem_erase h), fun y h => G.hi y (List.mem_of_mem_erase h), G.up.sublist (List.erase_sublist ..), G.few⟩
def spThings (C : Addr) : Sp := fun vs H Q _ => ∃ (p l d : Addr) (r : R), vs = [.ref p] ∧ RowAt C H p l d r ∧ ∀ q, H q = none → Q (.ref q) (upd H q (.lst (r.ord.map V.int)))
theorem ok_things (T : Txt K mg C CF CB CN CT CS c1 c2) : Met P w K mg base 1 C "things" (spThings C) [] := by
  obtain ⟨f, fd, ds, F, hm, b, dv⟩ := T.m_things.ex
  refine ⟨f, fd, _, _, T.cl, hm, F.ok sc_Row_things (fun vs H Q E h => ?_) (fun cdv A outer s H vs Q E hr h => ?_), b, dv⟩
  · obtain ⟨_, _, _, _, rfl, _⟩ := h; rfl
  · obtain ⟨p, l, d, r, rfl, S, k⟩ := h
    obtain ⟨⟨dx, ho⟩, hl, _⟩ := id S
    refine ⟨_, (pss_one (ps_ret (pe_callTy call_list_of (by rfl) T.n_list (by decide +kernel) (pa_cons (pe_fld (pv 0) rfl) pa_nil)))), ?_⟩
    exact ⟨_, rfl, p, C, dx, _, _, rfl, ho, T.cl, T.nO, fl_order .., l, _, rfl, .inl (SqL.of hl), k⟩

/-! ### mark, is_ahead, purse -/
def spMark (C : Addr) : Sp := fun vs H Q _ => ∃ (p l d : Addr) (r : R) (x : Int), vs = [.ref p, .int x] ∧ RowAt C H p l d r ∧ x ∈ r.ord ∧ Q (.int (r.mrk x)) H
theorem RowAt.val {C : Addr} {H : Hp} {p l d : Addr} {r : R} (S : RowAt C H p l d r) : ∃ kvs, H d = some (.dK kvs) ∧ ∀ x ∈ r.ord, valV kvs (.inl x) = some (.int (r.mrk x)) :=
  let ⟨kvs, hd, _, D⟩ := S.di
  ⟨kvs, hd, fun x hx => by rw [D.get, if_pos hx]⟩
theorem ok_mark (T : Txt K mg C CF CB CN CT CS c1 c2) (M__check_thing : Met P w K mg base 1 C "_check_thing" (spChk C) []) : Met P w K mg base 2 C "mark" (spMark C) [] := by
  obtain ⟨f, fd, ds, F, hm, b, dv⟩ := T.m_mark.ex
  refine ⟨f, fd, _, _, T.cl, hm, F.ok sc_Row_mark (fun vs H Q E h => ?_) (fun cdv A outer s H vs Q E hr h => ?_), b, dv⟩
  · obtain ⟨_, _, _, _, _, rfl, _⟩ := h; rfl
  · obtain ⟨p, l, d, r, x, rfl, S, hx, k⟩ := h
    obtain ⟨dx, ho⟩ := S.ob
    obtain ⟨kvs, hd, hv⟩ := S.val
    refine ⟨_, (pss_cons (ps_expr (pe_mt M__check_thing hr (by decide) (pv 0) (pa_cons (pv 1) pa_nil)))
      (pss_one (ps_ret (pe_dget (by exact hu_of hr) (pe_fld (pv 0) rfl) (pv 1) (fun _ _ => rfl))))), ?_⟩
    refine ⟨_, rfl, p, dx, _, rfl, ho, rfl, _, rfl, p, l, d, r, x, rfl, S, hx, ?_⟩
    exact ⟨_, rfl, p, C, dx, _, _, rfl, ho, T.cl, T.nM, fl_marks .., _, rfl, d, _, rfl, by rw [← hv x hx]; exact DGet.k (k := Sum.inl x) hd, k⟩

def spPurse (C : Addr) : Sp := fun vs H Q _ => ∃ (p l d : Addr) (r : R), vs = [.ref p] ∧ RowAt C H p l d r ∧ Q (.int r.purse) H
theorem ok_purse (T : Txt K mg C CF CB CN CT CS c1 c2) : Met P w K mg base 1 C "purse" (spPurse C) [] := by
  obtain ⟨f, fd, ds, F, hm, b, dv⟩ := T.m_purse.ex
  refine ⟨f, fd, _, _, T.cl, hm, F.ok sc_Row_purse (fun vs H Q E h => ?_) (fun cdv A outer s H vs Q E hr h => ?_), b, dv⟩
  · obtain ⟨_, _, _, _, rfl, _⟩ := h; rfl
  · obtain ⟨p, l, d, r, rfl, S, k⟩ := h
    obtain ⟨dx, ho⟩ := S.ob
    refine ⟨_, (pss_one (ps_ret (pe_fld (pv 0) rfl))), ?_⟩
    exact ⟨_, rfl, p, C, dx, _, _, rfl, ho, T.cl, T.nP, fl_purse .., k⟩

theorem hu64 {A : Around} {k : Nat} (hr : Room k A) : A.units + 64 < cLine := hr.units
theorem cells_at : ¬ ((Sum.inr ("cells" : Str) : Key) = Sum.inr ("at" : Str)) := by
  intro h
  have h2 := Sum.inr.inj h
  revert h2
  decide +kernel
/-- the law's state: its cells at c, its turn k -/
def stD (c : Addr) (k : Int) : List (Key × V) := [(.inr "cells", .ref c), (.inr "at", .int k)]
theorem stD_at (c : Addr) (k : Int) : valV (stD c k) (.inr ("at" : Str) : Key) = some (.int k) := by
  unfold stD
  rw [valV_neg cells_at, valV_pos rfl]
theorem stD_cells (c : Addr) (k : Int) : valV (stD c k) (.inr ("cells" : Str) : Key) = some (.ref c) := by
  unfold stD
  rw [valV_pos rfl]
theorem stD_put (c : Addr) (k j : Int) : putK (stD c k) (.inr ("at" : Str) : Key) (.int j) = stD c j := by
  unfold stD putK
  have h : ¬ (Str.ofString "cells" = Str.ofString "at") := fun e => cells_at (congrArg Sum.inr e)
  simp [h]
theorem dp_ints {K : PySem.W.Frag} {H : Hp} : ∀ (xs : List Int), DpAll K H (xs.map V.int) (xs.map PyData.int)
  | [] => .nil
  | x :: r => .cons (.int x) (dp_ints r)
theorem shaped_ints (xs : List Int) : SeqAt.shaped (.list (xs.map PyData.int)) = true := by
  have h1 : ∀ l : List Int, PyData.canLayAll0 (l.map PyData.int) = true := fun l => by
    induction l with
    | nil => simp [PyData.canLayAll0]
    | cons a r ih => simp [PyData.canLayAll0, PyData.canLay0, ih]
  have h2 : ∀ l : List Int, PyData.depthAll (l.map PyData.int) ≤ 1 := fun l => by
    induction l with
    | nil => simp [PyData.depthAll]
    | cons a r ih => simp only [List.map_cons, PyData.depthAll, PyData.depth]; omega
  have h3 := h2 xs
  have h4 : PyData.depth (.list (xs.map PyData.int)) = PyData.depthAll (xs.map PyData.int) + 1 := by simp [PyData.depth]
  unfold SeqAt.shaped
  rw [Bool.and_eq_true, decide_eq_true_eq, h4]
  exact ⟨by simp only [PyData.canLay0]; exact h1 xs, by omega⟩
theorem eqv_ints_nil (xs : List Int) : PyData.eqv (.list (xs.map PyData.int)) (.list []) = xs.isEmpty := by
  cases xs with
  | nil => simp [PyData.eqv, PyData.eqvAll]
  | cons a r => simp [PyData.eqv, PyData.eqvAll]
/-- the script: known to the object, or an object of the module -/
def ScrF (K : PySem.W.Frag) (H : Hp) (c : Addr) (xs : List Int) : Prop := (∃ o, H c = some (.frz o (.lst (xs.map V.int)))) ∨
  ∃ (o : Obj) (its : Array Value) (n : Nat), K.lookup c = some o ∧ o.cls = .type "list" ∧ o.dict = none ∧ o.data = .seq its n ∧ its.size ≤ sizeLine ∧ Vals (xs.map V.int) its.toList
theorem ScrF.sq {K : PySem.W.Frag} {H : Hp} {c : Addr} {xs : List Int} (h : ScrF K H c xs) : SqL K H c (xs.map V.int) := by
  rcases h with ⟨o, h⟩ | h
  · exact .inl (.inr ⟨o, h⟩)
  · exact .inr h
theorem ScrF.of {K : PySem.W.Frag} {H : Hp} {c : Addr} {xs : List Int} (hO : Only H) (h : SqL K H c (xs.map V.int)) : ScrF K H c xs := by
  rcases h with (h | ⟨o, h⟩) | h
  · rcases hO c with z | ⟨o, ys, z⟩
    · rw [h] at z; cases z
    · rw [h] at z; cases z
  · exact .inl ⟨o, h⟩
  · exact .inr h
theorem ScrF.keep {K : PySem.W.Frag} {H H' : Hp} {c : Addr} {xs : List Int} (h : ScrF K H c xs) (e : ∀ o u, H c = some (.frz o u) → H' c = some (.frz o u)) : ScrF K H' c xs := by
  rcases h with ⟨o, h⟩ | h
  · exact .inl ⟨o, e _ _ h⟩
  · exact .inr h
/-- the state stands at a: its cells a list of at most 63 ints -/
structure StAt (K : PySem.W.Frag) (H : Hp) (a c : Addr) (k : Nat) (xs : List Int) : Prop where
  dc : H a = some (.dK (stD c k))
  cs : ScrF K H c xs
def spNext (K : PySem.W.Frag) : Sp := fun vs H Q _ => ∃ (a c : Addr) (k : Nat) (xs : List Int), vs = [.ref a] ∧ StAt K H a c k xs ∧ xs.length ≤ 100 ∧ k ≤ 1000000 ∧ ∀ (n : Int) (H' : Hp), 0 ≤ n → n ≤ 306783378 → (∀ b o, H b = some o → b ≠ a → H' b = some o) → StAt K H' a c (k + 1) xs → Q (.int n) H'
theorem ok__law_next (T : Txt K mg C CF CB CN CT CS c1 c2) : Cal P w K mg base 1 "_law_next" (spNext K) [] := by
  obtain ⟨f, fd, F, hm, b⟩ := T.d__law_next.ex
  refine ⟨f, fd, _, _, F.ok sc__law_next (fun vs H Q E h => ?_) (fun cdv A outer s H vs Q E hr h => ?_), hm, F.kp, b, .nil⟩
  · obtain ⟨_, _, _, _, rfl, _⟩ := h; rfl
  · obtain ⟨a, c, k, xs, rfl, ⟨hd, hc⟩, hx, hk, q⟩ := h
    refine ⟨_, (pss_cons (ps_dput (by exact hu_of hr) (pv 0) pe_str (pe_op op_add (pe_dget (by exact hu_of hr) (pv 0) pe_str (fun _ _ => rfl)) pe_int) rfl)
      (pss_cons (ps_set (i := 1) sc__law_next.nd rfl (Or.inl rfl) (pe_dget (by exact hu_of hr) (pv 0) pe_str (fun _ _ => rfl)))
      (pss_cons (ps_set (i := 2) sc__law_next.nd rfl (Or.inl rfl) (pe_dget (by exact hu_of hr) (pv 0) pe_str (fun _ _ => rfl)))
      (pss_cons (ps_set (i := 3) sc__law_next.nd rfl (Or.inl rfl) (pe_op op_add (pe_op op_mulW (pe_op op_mulW pe_int (pv 1)) (pv 1)) (pe_op op_mulW pe_int (pv 1))))
      (pss_cons (ps_if (pt_cmpR (op_neD (hu64 hr)) (pv 2) (pe_lst pa_nil) (nomark _)) (pss_one (ps_set (i := 3) sc__law_next.nd rfl (Or.inl rfl) (pe_op op_add (pv 3) (pe_op op_mulW (pe_op op_mod (pe_ix ix_list (pv 2) (pe_op op_mod (pv 1) (pe_callB (id := "len") call_len_seq (by rfl) T.n_len (by decide +kernel) (pa_cons (pv 2) pa_nil))) (fun _ _ => rfl)) pe_int) (pe_op op_add pe_int (pe_op op_fdivW (pv 1) (pe_callB (id := "len") call_len_seq (by rfl) T.n_len (by decide +kernel) (pa_cons (pv 2) pa_nil)))))))) pss_nil)
      (pss_one (ps_ret (pe_op op_fdivW (pe_op op_mod (pe_op op_mulW (pv 3) pe_int) pe_int) pe_int)))))))), ?_⟩
    refine ⟨_, rfl, _, _, rfl, by rw [← stD_at c (k : Int)]; exact DGet.k (k := (Sum.inr "at" : Key)) hd, ?_⟩
    have hda : (upd H a (.dK (stD c ((k + 1 : Nat) : Int)))) a = some (.dK (stD c ((k + 1 : Nat) : Int))) := upd_same
    refine ⟨_, _, rfl, rfl, _, rfl, a, upd H a (.dK (stD c ((k + 1 : Nat) : Int))), rfl, ?_, ?_⟩
    · have e := DPut.k (k := (Sum.inr ("at" : Str) : Key)) (v := V.int ((k : Int) + 1)) hd (smallL (by show 2 ≤ 100000; decide))
      rw [stD_put] at e
      exact e
    have hs : ScrF K (upd H a (.dK (stD c ((k + 1 : Nat) : Int)))) c xs := hc.keep fun o u h => by rw [upd_ne (ne_of h hd (by intro z; cases z))]; exact h
    refine ⟨_, rfl, _, _, rfl, by rw [← stD_at c]; exact DGet.k (k := (Sum.inr ("at" : Str) : Key)) hda, ?_⟩
    refine ⟨_, rfl, _, _, rfl, by rw [← stD_cells c]; exact DGet.k (k := (Sum.inr ("cells" : Str) : Key)) hda, ?_⟩
    generalize hH1 : upd H a (.dK (stD c ((k + 1 : Nat) : Int))) = H1 at *
    have hkk : ((k + 1 : Nat) : Int).natAbs < 2 ^ 30 := by omega
    have b1 : ((31 : Int) * ((k + 1 : Nat) : Int)).natAbs < 2 ^ (5 + 30) := wide_lt (by decide) hkk
    have b2 : ((31 : Int) * ((k + 1 : Nat) : Int) * ((k + 1 : Nat) : Int)).natAbs < 2 ^ (5 + 30 + 30) := wide_lt b1 hkk
    have b3 : ((7919 : Int) * ((k + 1 : Nat) : Int)).natAbs < 2 ^ (13 + 30) := wide_lt (by decide) hkk
    refine ⟨_, rfl, _, _, rfl, rfl, wide_mul (a := 5) (by decide) hkk (by decide) (by decide) (by decide), _, rfl, _, _, rfl, rfl, wide_mul b1 hkk (by decide) (by decide) (by decide), _, rfl, _, _, rfl, rfl, wide_mul (a := 13) (by decide) hkk (by decide) (by decide) (by decide), _, _, rfl, rfl, ?_⟩
    have b4 : ((31 : Int) * ((k + 1 : Nat) : Int) * ((k + 1 : Nat) : Int) + 7919 * ((k + 1 : Nat) : Int)).natAbs < 2 ^ 66 := by omega
    refine ⟨_, rfl, Nat.zero_le _, fun p hp => ?_⟩
    have hfr : ∀ b o, H b = some o → b ≠ a → (upd H1 p (.lst [])) b = some o := fun b o e hb => by
      have e1 : H1 b = some o := by rw [← hH1, upd_ne hb]; exact e
      rw [upd_ne (ne_of_none e1 hp)]
      exact e1
    have hst : StAt K (upd H1 p (.lst [])) a c (k + 1) xs := ⟨by rw [upd_ne (ne_of_none hda hp)]; exact hda, hs.keep fun o u h => (same_new hp) _ _ h⟩
    have hs2 := hst.cs.sq
    refine ⟨_, _, .lst hs2 (dp_ints xs), .lst (SqL.of upd_same) .nil, shaped_ints xs, rfl, _, rfl, ?_⟩
    rw [eqv_ints_nil]
    have fin : ∀ z : Int, z.natAbs < 2 ^ 200 → 0 ≤ z * 48271 % 2147483647 / 7 ∧ z * 48271 % 2147483647 / 7 ≤ 306783378 := fun z _ => by omega
    have hlen : (xs.map V.int).length = xs.length := List.length_map ..
    cases hxe : xs.isEmpty with
    | true =>
      refine iteF ?_
      refine ⟨_, rfl, _, _, rfl, rfl, wide_mul b4 (show (48271 : Int).natAbs < 2 ^ 16 by decide) (by decide) (by decide) (by decide), _, _, rfl, rfl, (by (show (0 : Int) < _; first | decide | omega)), _, _, rfl, rfl, ⟨by decide, by decide⟩, ?_⟩
      exact q _ _ (fin _ (Nat.lt_trans b4 (by decide))).1 (fin _ (Nat.lt_trans b4 (by decide))).2 hfr hst
    | false =>
      refine iteT ?_
      have hpos : 0 < xs.length := by
        cases xs with
        | nil => cases hxe
        | cons _ _ => exact Nat.succ_pos _
      have hlt : (k + 1) % xs.length < xs.length := Nat.mod_lt _ hpos
      have hat : atI (xs.map V.int) (((k + 1 : Nat) : Int) % ((xs.map V.int).length : Int)) = some (.int xs[(k + 1) % xs.length]) := by
        have e : ((k + 1 : Nat) : Int) % ((xs.map V.int).length : Int) = (((k + 1) % xs.length : Nat) : Int) := by rw [hlen]; omega
        rw [e]
        refine atI_nat ?_
        rw [List.getElem?_map, List.getElem?_eq_getElem hlt]
        rfl
      generalize xs[(k + 1) % xs.length] = y at hat
      have hlp : (0 : Int) < ((xs.map V.int).length : Int) := by rw [hlen]; omega
      have hq0 : 0 ≤ ((k + 1 : Nat) : Int) / ((xs.map V.int).length : Int) := Int.ediv_nonneg (by omega) (by omega)
      have hq1 : ((k + 1 : Nat) : Int) / ((xs.map V.int).length : Int) ≤ ((k + 1 : Nat) : Int) := Int.ediv_le_self _ (by omega)
      have c1 : (y % 2147483647).natAbs < 2 ^ 31 := by omega
      have c2 : (1 + ((k + 1 : Nat) : Int) / ((xs.map V.int).length : Int)).natAbs < 2 ^ 31 := by omega
      have c3 := wide_lt c1 c2
      have c4 : ((31 : Int) * ((k + 1 : Nat) : Int) * ((k + 1 : Nat) : Int) + 7919 * ((k + 1 : Nat) : Int) + y % 2147483647 * (1 + ((k + 1 : Nat) : Int) / ((xs.map V.int).length : Int))).natAbs < 2 ^ 67 := by omega
      refine ⟨_, rfl, _, rfl, _, rfl, _, rfl, _, _, rfl, .inl hs2, _, _, rfl, rfl, hlp, _, _, _, _, rfl, rfl, hs2, hat, _, _, rfl, rfl, (by (show (0 : Int) < _; first | decide | omega)), ?_⟩
      refine ⟨_, rfl, _, rfl, _, _, rfl, .inl hs2, _, _, rfl, rfl, wide_div hlp (show ((xs.map V.int).length : Int).natAbs < 2 ^ 20 by rw [hlen]; omega) (by decide) (by decide), _, _, rfl, rfl, _, _, rfl, rfl, wide_mul c1 c2 (by decide) (by decide) (by decide), _, _, rfl, rfl, ?_⟩
      refine ⟨_, rfl, _, _, rfl, rfl, wide_mul c4 (show (48271 : Int).natAbs < 2 ^ 16 by decide) (by decide) (by decide) (by decide), _, _, rfl, rfl, (by (show (0 : Int) < _; first | decide | omega)), _, _, rfl, rfl, ⟨by decide, by decide⟩, ?_⟩
      exact q _ _ (fin _ (Nat.lt_trans c4 (by decide))).1 (fin _ (Nat.lt_trans c4 (by decide))).2 hfr hst
theorem stD_new (c : Addr) (k : Int) : mergeK [] (stD c k) = stD c k := by
  unfold mergeK stD
  have h : ¬ (Str.ofString "cells" = Str.ofString "at") := fun e => cells_at (congrArg Sum.inr e)
  simp [putK, h]
theorem StAt.keep {K : PySem.W.Frag} {H H' : Hp} {a c : Addr} {k : Nat} {xs : List Int} (S : StAt K H a c k xs) (e : Same H H') : StAt K H' a c k xs := ⟨e _ _ S.dc, S.cs.keep fun o u h => e _ _ h⟩
/-- all but p as it was -/
def But (p : Addr) (H H' : Hp) : Prop := ∀ b o, H b = some o → b ≠ p → H' b = some o
theorem But.same {p : Addr} {H H1 H' : Hp} (s : Same H H1) (hp : H p = none) (k : But p H1 H') : Same H H' := fun b o e => k b o (s b o e) (ne_of_none e hp)

/-! ### the law's own line -/
theorem line_next : ¬ ((Sum.inr ("line" : Str) : Key) = Sum.inr ("next" : Str)) := by
  intro h
  have h2 := Sum.inr.inj h
  revert h2
  decide +kernel
def mD (la : Addr) (g : Int) : List (Key × V) := [(.inr "line", .ref la), (.inr "next", .int g)]
theorem mD_next (la : Addr) (g : Int) : valV (mD la g) (.inr ("next" : Str) : Key) = some (.int g) := by
  unfold mD
  rw [valV_neg line_next, valV_pos rfl]
theorem mD_line (la : Addr) (g : Int) : valV (mD la g) (.inr ("line" : Str) : Key) = some (.ref la) := by
  unfold mD
  rw [valV_pos rfl]
theorem mD_put (la : Addr) (g j : Int) : putK (mD la g) (.inr ("next" : Str) : Key) (.int j) = mD la j := by
  unfold mD putK
  have h : ¬ (Str.ofString "line" = Str.ofString "next") := fun e => line_next (congrArg Sum.inr e)
  simp [h]
theorem mD_new (la : Addr) (g : Int) : mergeK [] (mD la g) = mD la g := by
  unfold mergeK mD
  have h : ¬ (Str.ofString "line" = Str.ofString "next") := fun e => line_next (congrArg Sum.inr e)
  simp [putK, h]
theorem inV_ints {z : Int} {xs : List Int} : inV (.int z) (xs.map V.int) = decide (z ∈ xs) := by
  unfold inV
  induction xs with
  | nil => simp
  | cons a r ih =>
    rw [List.map_cons, List.any_cons, ih]
    by_cases e : z = a
    · subst e
      simp [eqV]
    · have h1 : (a == z) = false := by simpa using fun q => e q.symm
      have h2 : (z == a) = false := by simpa using e
      simp [eqV, h1, h2, e]
/-- the law's line stands: its dict at m, its list at la -/
structure LineAt (H : Hp) (m la : Addr) (g : Nat) (xs : List Int) : Prop where
  dc : H m = some (.dK (mD la (g : Int)))
  li : H la = some (.lst (xs.map V.int))
theorem LineAt.keep {H H' : Hp} {m la : Addr} {g : Nat} {xs : List Int} (S : LineAt H m la g xs) (e : ∀ b u, H b = some u → b = m ∨ b = la → H' b = some u) : LineAt H' m la g xs := ⟨e _ _ S.dc (.inl rfl), e _ _ S.li (.inr rfl)⟩
def spLPlace (K : PySem.W.Frag) : Sp := fun vs H Q _ => ∃ (a c m la : Addr) (k g : Nat) (ns xs : List Int), vs = [.ref a, .ref m] ∧ StAt K H a c k ns ∧ ns.length ≤ 100 ∧ k ≤ 1000000 ∧ LineAt H m la g xs ∧ xs.length ≤ 1000 ∧ a ≠ m ∧
  ∀ (o : Option Int) (H' : Hp), (∀ x, o = some x → x ∈ xs) → (∀ b u, H b = some u → b ≠ a → H' b = some u) → StAt K H' a c (k + 1) ns → Q (oneV o) H'
theorem ok__law_place (T : Txt K mg C CF CB CN CT CS c1 c2) (G__law_next : Cal P w K mg base 1 "_law_next" (spNext K) []) : Cal P w K mg base 2 "_law_place" (spLPlace K) [] := by
  obtain ⟨f, fd, F, hm, b⟩ := T.d__law_place.ex
  refine ⟨f, fd, _, _, F.ok sc__law_place (fun vs H Q E h => ?_) (fun cdv A outer s H vs Q E hr h => ?_), hm, F.kp, b, .nil⟩
  · obtain ⟨_, _, _, _, _, _, _, _, rfl, _⟩ := h; rfl
  · obtain ⟨a, c, m, la, k, g, ns, xs, rfl, S, hns, hk, L, hx, nam, q⟩ := h
    refine ⟨_, (pss_cons (ps_set (i := 2) sc__law_place.nd rfl (Or.inl rfl) (pe_op op_fdivW (pe_c G__law_next hr (by decide) rfl (pa_cons (pv 0) pa_nil)) pe_int))
      (pss_cons (ps_set (i := 3) sc__law_place.nd rfl (Or.inl rfl) (pe_dget (by exact hu_of hr) (pv 1) pe_str (fun _ _ => rfl)))
      (pss_cons (ps_if (PW.pt (pw_or (pt_cmpR (op_eqD (by exact hu64 hr)) (pv 3) (pe_lst pa_nil) (nomark _)) (pw_or1 (pt_cmpR op_eq (pe_op op_mod (pv 2) pe_int) pe_int (nomark _))))) (pss_one (ps_ret pe_non)) pss_nil)
      (pss_cons (ps_if (pt_cmpR op_lt (pe_op op_mod (pv 2) pe_int) pe_int (nomark _)) (pss_one (ps_ret (pe_ix ix_list (pv 3) pe_int (fun _ _ => rfl)))) pss_nil)
      (pss_cons (ps_if (PW.pt (pw_and (pt_cmpR op_lt (pe_op op_mod (pv 2) pe_int) pe_int (nomark _)) (pw_and1 (pt_cmpR op_in_seq (pe_op op_sub (pe_dget (by exact hu_of hr) (pv 1) pe_str (fun _ _ => rfl)) pe_int) (pv 3) (by rfl))))) (pss_one (ps_ret (pe_op op_sub (pe_dget (by exact hu_of hr) (pv 1) pe_str (fun _ _ => rfl)) pe_int))) pss_nil)
      (pss_one (ps_ret (pe_ix ix_list (pv 3) (pe_op op_mod (pe_op op_fdivW (pv 2) pe_int) (pe_callB (id := "len") call_len_seq (by rfl) T.n_len (by decide +kernel) (pa_cons (pv 3) pa_nil))) (fun _ _ => rfl))))))))), ?_⟩
    refine ⟨_, rfl, a, c, k, ns, rfl, S, hns, hk, fun n H1 hn0 hn1 k1 S1 => ?_⟩
    have L1 : LineAt H1 m la g xs := ⟨k1 _ _ L.dc nam.symm, k1 _ _ L.li (ne_of L.li S.dc (by intro z; cases z))⟩
    refine ⟨_, _, rfl, rfl, ⟨by decide, by decide⟩, ?_⟩
    have hN0 : 0 ≤ n / 3 := by omega
    dsimp only
    generalize n / 3 = N at *
    -- line
    refine ⟨_, rfl, m, _, rfl, by rw [← mD_line la (g : Int)]; exact DGet.k (k := (Sum.inr ("line" : Str) : Key)) L1.dc, ?_⟩
    -- line == [] or n % 9 == 0
    refine ⟨_, rfl, Nat.zero_le _, fun e0 he0 => ?_⟩
    have s2 : Same H1 (upd H1 e0 (.lst [])) := same_new he0
    have hE2 : (upd H1 e0 (.lst [])) e0 = some (.lst []) := upd_same
    have S2 := S1.keep s2
    have L2 := L1.keep (H' := upd H1 e0 (.lst [])) fun b u e _ => s2 b u e
    have k2 : ∀ b u, H b = some u → b ≠ a → (upd H1 e0 (.lst [])) b = some u := fun b u e hb => s2 _ _ (k1 b u e hb)
    generalize upd H1 e0 (.lst []) = H2 at *
    refine ⟨_, _, .lst (SqL.of L2.li) (dp_ints xs), .lst (SqL.of hE2) .nil, shaped_ints xs, rfl, _, rfl, ?_⟩
    rw [eqv_ints_nil]
    cases hxe : xs.isEmpty with
    | true =>
      refine iteT ?_
      refine iteT ?_
      exact q none H2 (fun x e => by cases e) k2 S2
    | false =>
      refine iteF ?_
      have hpos : 0 < xs.length := by
        cases xs with
        | nil => cases hxe
        | cons _ _ => exact Nat.succ_pos _
      have hlen : (xs.map V.int).length = xs.length := List.length_map ..
      have item : ∀ j : Nat, j < xs.length → atI (xs.map V.int) (j : Int) = some (.int (xs.getD j 0)) := fun j hj => atI_nat (getD_at hj)
      refine ⟨_, rfl, _, _, rfl, rfl, by (show (0 : Int) < _; first | decide | omega), rfl, _, rfl, ?_⟩
      refine ite2d (fun _ => q none H2 (fun x e => by cases e) k2 S2) fun _ => ?_
      -- n % 9 < 4
      refine ⟨_, rfl, _, _, rfl, rfl, by (show (0 : Int) < _; first | decide | omega), _, _, rfl, rfl, _, rfl, ?_⟩
      refine ite2d (fun _ => ?_) fun _ => ?_
      · refine ⟨_, rfl, la, _, _, _, rfl, rfl, SqL.of L2.li, item 0 hpos, ?_⟩
        exact q (some (xs.getD 0 0)) H2 (fun x e => by rw [← Option.some.inj e]; exact getD_mem hpos) k2 S2
      have fin : (tOp (rIxL K) (tVar 3) (tOp (rI (fun _ j => 0 < j) fun i j => V.int (i % j)) (tOp (rI CDivW fun i j => V.int (i / j)) (tVar 2) (tC (V.int 9))) (tCB (fun xs H Q => ∃ p ys, xs = [V.ref p] ∧ (SqL K H p ys ∨ SqT K H p ys) ∧ Q (.int ys.length) H) (tCons (tVar 3) tNil)))) [some (.ref a), some (.ref m), some (.int N), some (.ref la)] H2 Q := by
        have hlt : (N / 9 % (xs.length : Int)).toNat < xs.length := by
          have := Int.emod_lt_of_pos (N / 9) (show (0 : Int) < (xs.length : Int) by omega)
          have := Int.emod_nonneg (N / 9) (show (xs.length : Int) ≠ 0 by omega)
          omega
        have e1 : N / 9 % ((xs.map V.int).length : Int) = ((N / 9 % (xs.length : Int)).toNat : Int) := by
          rw [hlen, Int.toNat_of_nonneg (Int.emod_nonneg _ (by omega))]
        refine ⟨_, rfl, _, rfl, _, _, rfl, rfl, ⟨by decide, by decide⟩, _, rfl, la, _, rfl, .inl (SqL.of L2.li), _, _, rfl, rfl, by rw [hlen]; omega, la, _, _, _, rfl, rfl, SqL.of L2.li, by rw [e1]; exact item _ hlt, ?_⟩
        exact q (some (xs.getD (N / 9 % (xs.length : Int)).toNat 0)) H2 (fun x e => by rw [← Option.some.inj e]; exact getD_mem hlt) k2 S2
      -- n % 9 < 6 and m['next'] - 1 in line
      refine ⟨_, rfl, _, _, rfl, rfl, by (show (0 : Int) < _; first | decide | omega), _, _, rfl, rfl, _, rfl, ?_⟩
      refine ite2d (fun _ => ?_) fun _ => ?_
      · refine ⟨_, rfl, m, _, rfl, by rw [← mD_next la (g : Int)]; exact DGet.k (k := (Sum.inr ("next" : Str) : Key)) L2.dc, _, _, rfl, rfl, _, rfl, la, _, rfl, .inl (SqL.of L2.li), rfl, flat_ints xs, _, rfl, ?_⟩
        rw [if_neg Bool.false_ne_true, inV_ints]
        refine ite2d (fun hin => ?_) fun _ => fin
        refine ⟨_, rfl, m, _, rfl, by rw [← mD_next la (g : Int)]; exact DGet.k (k := (Sum.inr ("next" : Str) : Key)) L2.dc, _, _, rfl, rfl, ?_⟩
        exact q (some ((g : Int) - 1)) H2 (fun x e => by rw [← Option.some.inj e]; exact hin) k2 S2
      · refine iteF ?_
        exact fin
theorem eqv_ints (xs : List Int) : PyData.eqv (.list (xs.map PyData.int)) (.list (xs.map PyData.int)) = true := by
  have h : ∀ l : List Int, PyData.eqvAll (l.map PyData.int) (l.map PyData.int) = true := fun l => by
    induction l with
    | nil => simp [PyData.eqvAll]
    | cons a r ih => simp [PyData.eqvAll, PyData.eqv, ih]
  simp only [PyData.eqv]
  exact h xs

/-! ### objects that stand, each at its own address, and the script -/
inductive Ob where
  | dk (kvs : List (Key × V))
  | ls (xs : List V)
  | tu (xs : List V)
  | rp (C l d : Addr) (r : R)
  | dm (n : Nat) (ord : List Int) (f : Int → Int)
def Ob.ok : Ob → HO → Prop
  | .dk kvs, o => o = .dK kvs
  | .ls xs, o => o = .lst xs
  | .tu xs, o => o = .tup xs
  | .rp C l d r, o => ∃ dx, o = .ins C dx (flds r.wide l d r.given r.purse)
  | .dm n ord f, o => ∃ kvs, o = .dK kvs ∧ kvs.length ≤ n ∧ DictIs kvs ord f
theorem Ob.nf {x : Ob} {o : Obj} {u : HO} (h : x.ok (.frz o u)) : False := by
  cases x with
  | dk _ => cases h
  | ls _ => cases h
  | tu _ => cases h
  | rp _ _ _ _ => obtain ⟨_, h⟩ := h; cases h
  | dm _ _ _ => obtain ⟨_, h, _⟩ := h; cases h
structure Foot (K : PySem.W.Frag) (c : Addr) (ns : List Int) (H : Hp) (fs : List (Addr × Ob)) : Prop where
  nd : (fs.map (·.1)).Nodup
  at_ : ∀ e, e ∈ fs → ∃ o, H e.1 = some o ∧ e.2.ok o
  scr : ScrF K H c ns
theorem set_at {α : Type} {xs : List α} {i : Nat} {a : α} (h : xs[i]? = some a) : xs.set i a = xs := by
  induction xs generalizing i with
  | nil => rfl
  | cons x r ih =>
    cases i with
    | zero => have e : x = a := Option.some.inj h; rw [e]; rfl
    | succ i => show x :: r.set i a = _; rw [ih h]
theorem nd_set {xs : List Addr} {i : Nat} {a : Addr} (h : xs.Nodup) (ha : ¬ a ∈ xs) : (xs.set i a).Nodup := by
  induction xs generalizing i with
  | nil => exact h
  | cons x r ih =>
    rw [List.mem_cons, not_or] at ha
    rw [List.nodup_cons] at h
    cases i with
    | zero => exact List.nodup_cons.mpr ⟨ha.2, h.2⟩
    | succ i =>
      refine List.nodup_cons.mpr ⟨fun z => ?_, ih h.2 ha.2⟩
      rcases List.mem_or_eq_of_mem_set z with z | z
      · exact h.1 z
      · exact ha.1 z.symm
section
variable {K : PySem.W.Frag} {c : Addr} {ns : List Int} {H H' : Hp} {fs : List (Addr × Ob)}
theorem Foot.ok (F : Foot K c ns H fs) {i : Nat} {a : Addr} {x : Ob} (hi : fs[i]? = some (a, x)) : ∃ o, H a = some o ∧ x.ok o := F.at_ _ (List.mem_of_getElem? hi)
theorem Foot.ne (F : Foot K c ns H fs) {i j : Nat} {a b : Addr} {x y : Ob} (hi : fs[i]? = some (a, x)) (hj : fs[j]? = some (b, y)) (n : i ≠ j) : a ≠ b := by
  have h := List.pairwise_iff_getElem.mp F.nd
  obtain ⟨li, ei⟩ := List.getElem?_eq_some_iff.mp hi
  obtain ⟨lj, ej⟩ := List.getElem?_eq_some_iff.mp hj
  have li' : i < (fs.map (·.1)).length := by rw [List.length_map]; exact li
  have lj' : j < (fs.map (·.1)).length := by rw [List.length_map]; exact lj
  have ai : (fs.map (·.1))[i] = a := by rw [List.getElem_map, ei]
  have aj : (fs.map (·.1))[j] = b := by rw [List.getElem_map, ej]
  rcases Nat.lt_or_gt_of_ne n with g | g
  · have := h i j li' lj' g
    rw [ai, aj] at this
    exact this
  · have := h j i lj' li' g
    rw [ai, aj] at this
    exact this.symm
theorem Foot.li (F : Foot K c ns H fs) (i : Nat) {a : Addr} {xs : List V} (hi : fs[i]? = some (a, .ls xs)) : H a = some (.lst xs) := by
  obtain ⟨o, h, e⟩ := F.ok hi; cases e; exact h
theorem Foot.dk (F : Foot K c ns H fs) (i : Nat) {a : Addr} {kvs : List (Key × V)} (hi : fs[i]? = some (a, .dk kvs)) : H a = some (.dK kvs) := by
  obtain ⟨o, h, e⟩ := F.ok hi; cases e; exact h
theorem Foot.tu (F : Foot K c ns H fs) (i : Nat) {a : Addr} {xs : List V} (hi : fs[i]? = some (a, .tu xs)) : H a = some (.tup xs) := by
  obtain ⟨o, h, e⟩ := F.ok hi; cases e; exact h
theorem Foot.dm (F : Foot K c ns H fs) (i : Nat) {a : Addr} {n : Nat} {ord : List Int} {f : Int → Int} (hi : fs[i]? = some (a, .dm n ord f)) : ∃ kvs, H a = some (.dK kvs) ∧ kvs.length ≤ n ∧ DictIs kvs ord f := by
  obtain ⟨o, h, kvs, e, q⟩ := F.ok hi; cases e; exact ⟨kvs, h, q⟩
theorem Foot.row (F : Foot K c ns H fs) (i j k : Nat) {p l d C : Addr} {r : R} (h0 : fs[i]? = some (p, .rp C l d r)) (h1 : fs[j]? = some (l, .ls (r.ord.map V.int))) (h2 : fs[k]? = some (d, .dm r.given r.ord r.mrk)) : RowAt C H p l d r := by
  obtain ⟨o, h, dx, e⟩ := F.ok h0
  cases e
  exact ⟨⟨dx, h⟩, F.li j h1, F.dm k h2⟩
theorem Foot.st (F : Foot K c ns H fs) (i : Nat) {a : Addr} {k : Nat} (hi : fs[i]? = some (a, .dk (stD c k))) : StAt K H a c k ns := ⟨F.dk i hi, F.scr⟩
theorem Foot.same (F : Foot K c ns H fs) (e : Same H H') : Foot K c ns H' fs :=
  ⟨F.nd, fun x hx => let ⟨o, h, q⟩ := F.at_ x hx; ⟨o, e _ _ h, q⟩, F.scr.keep fun o u h => e _ _ h⟩
theorem Foot.nfz (F : Foot K c ns H fs) {i : Nat} {a b : Addr} {x : Ob} (hi : fs[i]? = some (a, x)) {o : Obj} {u : HO} (h : H b = some (.frz o u)) : b ≠ a := fun e => by
  obtain ⟨y, h1, h2⟩ := F.ok hi
  rw [← e, h] at h1
  cases h1
  exact Ob.nf h2
theorem set_other {α : Type} {xs : List α} {i j : Nat} {a b : α} (n : i ≠ j) (h : xs[j]? = some b) : (xs.set i a)[j]? = some b := by
  rw [List.getElem?_set_ne n]; exact h
/-- one of them turns -/
theorem Foot.one (F : Foot K c ns H fs) (y : Ob) {i : Nat} {a : Addr} {x : Ob} (hi : fs[i]? = some (a, x)) (e : ∀ b u, H b = some u → b ≠ a → H' b = some u) (hy : ∃ o, H' a = some o ∧ y.ok o) : Foot K c ns H' (fs.set i (a, y)) := by
  refine ⟨?_, fun z hz => ?_, F.scr.keep fun o u h => e _ _ h (F.nfz hi h)⟩
  · rw [List.map_set, set_at (by rw [List.getElem?_map, hi]; rfl)]
    exact F.nd
  · obtain ⟨j, hj⟩ := List.mem_iff_getElem?.mp hz
    by_cases n : i = j
    · subst n
      rw [List.getElem?_set_self (List.getElem?_eq_some_iff.mp hi).1] at hj
      cases hj
      exact hy
    · rw [List.getElem?_set_ne n] at hj
      obtain ⟨o, h1, h2⟩ := F.at_ z (List.mem_of_getElem? hj)
      exact ⟨o, e _ _ h1 (F.ne (x := z.2) (i := j) (j := i) hj hi (fun q => n q.symm)), h2⟩
/-- a list of theirs turns by itself -/
theorem Foot.uli (F : Foot K c ns H fs) (i : Nat) {a : Addr} {x : Ob} (ys : List V) (hi : fs[i]? = some (a, x)) : Foot K c ns (upd H a (.lst ys)) (fs.set i (a, .ls ys)) := F.one (.ls ys) hi (fun b u h hb => by rw [upd_ne hb]; exact h) ⟨_, upd_same, rfl⟩
theorem Foot.udk (F : Foot K c ns H fs) (i : Nat) {a : Addr} {x : Ob} (ys : List (Key × V)) (hi : fs[i]? = some (a, x)) : Foot K c ns (upd H a (.dK ys)) (fs.set i (a, .dk ys)) := F.one (.dk ys) hi (fun b u h hb => by rw [upd_ne hb]; exact h) ⟨_, upd_same, rfl⟩
theorem Foot.fresh (F : Foot K c ns H fs) {a : Addr} (ha : H a = none) : ¬ a ∈ fs.map (·.1) := fun z => by
  obtain ⟨e, he, q⟩ := List.mem_map.mp z
  obtain ⟨o, h, _⟩ := F.at_ e he
  rw [q, ha] at h
  cases h
/-- one more -/
theorem Foot.push (F : Foot K c ns H fs) {a : Addr} (x : Ob) (e : Same H H') (ha : H a = none) (h : ∃ o, H' a = some o ∧ x.ok o) : Foot K c ns H' (fs ++ [(a, x)]) := by
  refine ⟨?_, fun z hz => ?_, F.scr.keep fun o u h => e _ _ h⟩
  · rw [List.map_append, List.nodup_append]
    exact ⟨F.nd, List.nodup_cons.mpr ⟨List.not_mem_nil, List.nodup_nil⟩, fun y hy z hz => by
      have e := List.mem_singleton.mp hz
      subst e
      exact fun q => F.fresh ha (q ▸ hy)⟩
  · rcases List.mem_append.mp hz with g | g
    · obtain ⟨o, h1, h2⟩ := F.at_ z g
      exact ⟨o, e _ _ h1, h2⟩
    · rw [List.mem_singleton.mp g]
      exact h
theorem Foot.pli (F : Foot K c ns H fs) {a : Addr} {ys : List V} (ha : H a = none) : Foot K c ns (upd H a (.lst ys)) (fs ++ [(a, .ls ys)]) := F.push (.ls ys) (same_new ha) ha ⟨_, upd_same, rfl⟩
theorem Foot.ptu (F : Foot K c ns H fs) {a : Addr} {ys : List V} (ha : H a = none) : Foot K c ns (upd H a (.tup ys)) (fs ++ [(a, .tu ys)]) := F.push (.tu ys) (same_new ha) ha ⟨_, upd_same, rfl⟩
theorem Foot.top (F : Foot K c ns H fs) (n : Nat) : Foot K c ns H (fs.take n) :=
  ⟨by rw [List.map_take]; exact F.nd.sublist (List.take_sublist ..), fun z hz => F.at_ z (List.mem_of_mem_take hz), F.scr⟩
theorem Foot.start {a : Addr} {k : Nat} (h : H a = some (.dK (stD c k))) (s : ScrF K H c ns) : Foot K c ns H [(a, .dk (stD c k))] :=
  ⟨List.nodup_cons.mpr ⟨List.not_mem_nil, List.nodup_nil⟩, fun z hz => by rw [List.mem_singleton.mp hz]; exact ⟨_, h, rfl⟩, s⟩
/-- a row turns -/
theorem Foot.turn (F : Foot K c ns H fs) (i j k : Nat) {p l l' d C : Addr} {r' : R} {x0 x1 x2 : Ob} (h0 : fs[i]? = some (p, x0)) (h1 : fs[j]? = some (l, x1)) (h2 : fs[k]? = some (d, x2)) (nij : i ≠ j) (nik : i ≠ k) (njk : j ≠ k)
    (e : ∀ b u, H b = some u → b ≠ p → b ≠ l → b ≠ d → H' b = some u) (hl : l' = l ∨ H l' = none) (W : RowAt C H' p l' d r') : Foot K c ns H' (((fs.set i (p, .rp C l' d r')).set j (l', .ls (r'.ord.map V.int))).set k (d, .dm r'.given r'.ord r'.mrk)) := by
  have m0 : (fs.map (·.1))[i]? = some p := by rw [List.getElem?_map, h0]; rfl
  have m1 : (fs.map (·.1))[j]? = some l := by rw [List.getElem?_map, h1]; rfl
  have m2 : (fs.map (·.1))[k]? = some d := by rw [List.getElem?_map, h2]; rfl
  obtain ⟨dx, w0⟩ := W.ob
  refine ⟨?_, fun z hz => ?_, F.scr.keep fun o u h => e _ _ h (F.nfz h0 h) (F.nfz h1 h) (F.nfz h2 h)⟩
  · rw [List.map_set, List.map_set, List.map_set, set_at m0]
    show (((fs.map (·.1)).set j l').set k d).Nodup
    rw [set_at (set_other njk m2)]
    rcases hl with q | q
    · rw [q, set_at m1]; exact F.nd
    · exact nd_set F.nd (F.fresh q)
  · obtain ⟨n, hn⟩ := List.mem_iff_getElem?.mp hz
    by_cases nk : k = n
    · subst nk
      rw [List.getElem?_set_self (by rw [List.length_set, List.length_set]; exact (List.getElem?_eq_some_iff.mp h2).1)] at hn
      cases hn
      obtain ⟨kvs, h, q⟩ := W.di
      exact ⟨_, h, kvs, rfl, q⟩
    · rw [List.getElem?_set_ne nk] at hn
      by_cases nj : j = n
      · subst nj
        rw [List.getElem?_set_self (by rw [List.length_set]; exact (List.getElem?_eq_some_iff.mp h1).1)] at hn
        cases hn
        exact ⟨_, W.li, rfl⟩
      · rw [List.getElem?_set_ne nj] at hn
        by_cases ni : i = n
        · subst ni
          rw [List.getElem?_set_self (List.getElem?_eq_some_iff.mp h0).1] at hn
          cases hn
          exact ⟨_, w0, dx, rfl⟩
        · rw [List.getElem?_set_ne ni] at hn
          obtain ⟨o, g1, g2⟩ := F.at_ z (List.mem_of_getElem? hn)
          exact ⟨o, e _ _ g1 (F.ne (x := z.2) hn h0 (fun q => ni q.symm)) (F.ne (x := z.2) hn h1 (fun q => nj q.symm)) (F.ne (x := z.2) hn h2 (fun q => nk q.symm)), g2⟩
/-- a new row -/
theorem Foot.addRow (F : Foot K c ns H fs) {p l d C : Addr} {r : R} (s : Same H H') (hp : H p = none) (hl : H l = none) (hd : H d = none) (W : RowAt C H' p l d r) : Foot K c ns H' (fs ++ [(p, .rp C l d r), (l, .ls (r.ord.map V.int)), (d, .dm r.given r.ord r.mrk)]) := by
  obtain ⟨dx, w0⟩ := id W.ob
  refine ⟨?_, fun z hz => ?_, F.scr.keep fun o u h => s _ _ h⟩
  · rw [List.map_append, List.nodup_append]
    refine ⟨F.nd, ?_, fun y hy z hz => ?_⟩
    · show [p, l, d].Nodup
      have := W.npl
      have := W.npd
      have := W.nld
      simp [*]
    · have hz' : z ∈ [p, l, d] := hz
      intro q
      subst q
      simp only [List.mem_cons, List.not_mem_nil, or_false] at hz'
      rcases hz' with z | z | z
      · exact F.fresh hp (z ▸ hy)
      · exact F.fresh hl (z ▸ hy)
      · exact F.fresh hd (z ▸ hy)
  · rcases List.mem_append.mp hz with g | g
    · obtain ⟨o, h1, h2⟩ := F.at_ z g
      exact ⟨o, s _ _ h1, h2⟩
    · simp only [List.mem_cons, List.not_mem_nil, or_false] at g
      rcases g with g | g | g
      · rw [g]; exact ⟨_, w0, dx, rfl⟩
      · rw [g]; exact ⟨_, W.li, rfl⟩
      · rw [g]
        obtain ⟨kvs, h, q⟩ := W.di
        exact ⟨_, h, kvs, rfl, q⟩
end

/-! ### rules of the kit, said over the fragment by its name: within a comprehension -/
theorem ix_tupK {X : Cx} {K : PySem.W.Frag} (h : X.K = K) : IxR X (rIxT K) := h ▸ ix_tup
theorem ix_listK {X : Cx} {K : PySem.W.Frag} (h : X.K = K) : IxR X (rIxL K) := h ▸ ix_list
theorem lenK {X : Cx} {K : PySem.W.Frag} (h : X.K = K) : CallR X (.builtin "len") (fun xs H Q => ∃ p ys, xs = [V.ref p] ∧ (SqL K H p ys ∨ SqT K H p ys) ∧ Q (V.int (ys.length : Int)) H) := h ▸ call_len_seq
theorem isiK {X : Cx} {K : PySem.W.Frag} (h : X.K = K) : CallR X (.builtin "isinstance") (rIsi K) := h ▸ call_isi
theorem neDK {X : Cx} {K : PySem.W.Frag} (h : X.K = K) (u : X.A.units + 64 < cLine) : OpR X (compareOp .NotEq) (rNeD K) := h ▸ op_neD u
theorem eqDK {X : Cx} {K : PySem.W.Frag} (h : X.K = K) (u : X.A.units + 64 < cLine) : OpR X (compareOp .Eq) (rEqD K) := h ▸ op_eqD u
theorem c_of {v : V} {σ : L2.St} {H : Hp} {Q : VK} (h : Q v H) : tC v σ H Q := h

theorem made {C : Addr} {H H3 : Hp} {p dx l d : Addr} (hp : H p = none) (hdx : H dx = none) (k3 : ∀ b u, (upd (upd H dx (.own p)) p (.ins C dx [])) b = some u → b ≠ p → H3 b = some u) (hl : (upd (upd H dx (.own p)) p (.ins C dx [])) l = none) (hd : (upd (upd H dx (.own p)) p (.ins C dx [])) d = none) : Same H H3 ∧ H l = none ∧ H d = none := by
  have s0 : Same H (upd (upd H dx (.own p)) p (.ins C dx [])) := fun b u e => by
    rw [upd_ne (ne_of_none e hp), upd_ne (ne_of_none e hdx)]
    exact e
  exact ⟨fun b u e => k3 b u (s0 b u e) (ne_of_none e hp), s0.free hl, s0.free hd⟩
/-- n % m == 0 and line != [] -/
theorem test_take {K : PySem.W.Frag} {σ : L2.St} {H : Hp} {Q : Bool → Hp → Prop} {i j : Nat} {N M : Int} {xs : List Int} {la : Addr} (hi : σ[i]? = some (some (.int N))) (hj : σ[j]? = some (some (.ref la))) (hl : H la = some (.lst (xs.map V.int))) (hM : 0 < M)
    (q : ∀ b H1, Same H H1 → (b = true → 0 < xs.length) → Q b H1) :
    tAnd (tTest (tOp rEq (tOp (rI (fun _ j => 0 < j) fun i j => V.int (i % j)) (tVar i) (tC (.int M))) (tC (.int 0)))) (tTest (tOp (rNeD K) (tVar j) (tLst tNil))) σ H Q := by
  refine ⟨_, hi, _, _, rfl, rfl, hM, rfl, _, rfl, ?_⟩
  refine ite2d (fun _ => ?_) (fun _ => q false H (Same.refl _) (by simp))
  refine ⟨_, hj, Nat.zero_le _, fun e he => ⟨_, _, .lst (SqL.of ((same_new he) _ _ hl)) (dp_ints xs), .lst (SqL.of upd_same) .nil, shaped_ints xs, rfl, _, rfl, ?_⟩⟩
  rw [eqv_ints_nil]
  refine q _ _ (same_new he) fun hb => ?_
  cases xs with
  | nil => cases hb
  | cons _ _ => exact Nat.succ_pos _
theorem ix_mod {xs : List Int} (h : 0 < xs.length) (N : Int) : ∃ x, x ∈ xs ∧ atI (xs.map V.int) (N % ((xs.map V.int).length : Int)) = some (.int x) := by
  have h1 := Int.emod_lt_of_pos N (show (0 : Int) < (xs.length : Int) by omega)
  have h2 := Int.emod_nonneg N (show (xs.length : Int) ≠ 0 by omega)
  have hlt : (N % (xs.length : Int)).toNat < xs.length := by omega
  have e1 : N % ((xs.map V.int).length : Int) = ((N % (xs.length : Int)).toNat : Int) := by
    rw [List.length_map, Int.toNat_of_nonneg h2]
  rw [e1]
  exact ⟨_, getD_mem hlt, atI_nat (getD_at hlt)⟩
theorem rem_ok {xs : List Int} {x : Int} (hx : x ∈ xs) : xs[xs.idxOf x]? = some x ∧ (∀ m : Nat, m < xs.idxOf x → xs[m]? ≠ some x) ∧ xs.eraseIdx (xs.idxOf x) = xs.erase x := by
  have hlt := List.idxOf_lt_length_of_mem hx
  refine ⟨by rw [List.getElem?_eq_getElem hlt, List.getElem_idxOf], fun m hm e => ?_, (List.erase_eq_eraseIdx_of_idxOf rfl).symm⟩
  have := List.not_of_lt_findIdx (p := (· == x)) (xs := xs) hm
  have hml : m < xs.length := Nat.lt_trans hm hlt
  rw [List.getElem?_eq_getElem hml] at e
  have e2 := Option.some.inj e
  simp [e2] at this
theorem erase_at {l : List Int} (h : l.Nodup) {i : Nat} {x : Int} (hi : l[i]? = some x) : l.eraseIdx i = l.erase x := by
  induction l generalizing i with
  | nil => simp at hi
  | cons a r ih =>
    rw [List.nodup_cons] at h
    cases i with
    | zero =>
      have e : a = x := Option.some.inj hi
      subst e
      simp
    | succ i =>
      have hm : x ∈ r := List.mem_of_getElem? hi
      have ne : ¬ a = x := fun e => h.1 (e ▸ hm)
      have hi' : r[i]? = some x := hi
      show a :: r.eraseIdx i = _
      rw [ih h.2 hi', List.erase_cons_tail (by simpa using ne)]
theorem map_eraseI {α β : Type} (f : α → β) (l : List α) (i : Nat) : (l.map f).eraseIdx i = (l.eraseIdx i).map f := by
  induction l generalizing i with
  | nil => rfl
  | cons a r ih =>
    cases i with
    | zero => rfl
    | succ i => show f a :: (r.map f).eraseIdx i = _; rw [ih]; rfl

/-! ### the law's state, its line and the row -/
structure Lw (K : PySem.W.Frag) (C : Addr) (H : Hp) (st a : Addr) (k : Nat) (ns : List Int) (p l d : Addr) (r : R) (m la : Addr) : Prop where
  S : StAt K H st a k ns
  W : RowAt C H p l d r
  G : Good r
  L : LineAt H m la r.given r.ord
  n1 : st ≠ d
  n2 : m ≠ d
  n3 : st ≠ m
  n4 : la ≠ l
theorem Lw.same {K : PySem.W.Frag} {C : Addr} {H H' : Hp} {st a : Addr} {k : Nat} {ns : List Int} {p l d : Addr} {r : R} {m la : Addr} (I : Lw K C H st a k ns p l d r m la) (e : Same H H') : Lw K C H' st a k ns p l d r m la :=
  ⟨I.S.keep e, I.W.keep e, I.G, I.L.keep fun b u h _ => e b u h, I.n1, I.n2, I.n3, I.n4⟩
theorem RowAt.but {C : Addr} {H H' : Hp} {p l d q : Addr} {r : R} (S : RowAt C H p l d r) (e : ∀ b u, H b = some u → b ≠ q → H' b = some u) (h1 : p ≠ q) (h2 : l ≠ q) (h3 : d ≠ q) : RowAt C H' p l d r :=
  ⟨let ⟨dx, h⟩ := S.ob; ⟨dx, e _ _ h h1⟩, e _ _ S.li h2, let ⟨kvs, h, q⟩ := S.di; ⟨kvs, e _ _ h h3, q⟩⟩
/-- the row in the state's stead: p is an instance, l a list -/
theorem RowAt.ofD {C : Addr} {H : Hp} {p l d q : Addr} {r : R} {kvs : List (Key × V)} (S : RowAt C H p l d r) (h : H q = some (.dK kvs)) : p ≠ q ∧ l ≠ q :=
  ⟨let ⟨_, g⟩ := S.ob; ne_of g h (by intro z; cases z), ne_of S.li h (by intro z; cases z)⟩
theorem Lw.turn {K : PySem.W.Frag} {C : Addr} {H H' : Hp} {st a : Addr} {k k' : Nat} {ns : List Int} {p l d : Addr} {r : R} {m la : Addr} (I : Lw K C H st a k ns p l d r m la) (e : ∀ b u, H b = some u → b ≠ st → H' b = some u) (S' : StAt K H' st a k' ns) : Lw K C H' st a k' ns p l d r m la := by
  obtain ⟨g1, g2⟩ := I.W.ofD I.S.dc
  exact ⟨S', I.W.but e g1 g2 I.n1.symm, I.G, ⟨e _ _ I.L.dc I.n3.symm, e _ _ I.L.li (ne_of I.L.li I.S.dc (by intro z; cases z))⟩, I.n1, I.n2, I.n3, I.n4⟩
theorem StAt.two {K : PySem.W.Frag} {H H' : Hp} {st a p d : Addr} {k : Nat} {ns : List Int} (S : StAt K H st a k ns) (e : ∀ b u, H b = some u → b ≠ p → b ≠ d → H' b = some u) (h1 : st ≠ p) (h2 : st ≠ d) (hp : ∀ o u, H p ≠ some (.frz o u)) (hd : ∀ o u, H d ≠ some (.frz o u)) : StAt K H' st a k ns :=
  ⟨e _ _ S.dc h1 h2, S.cs.keep fun o u h => e _ _ h (fun z => hp o u (z ▸ h)) (fun z => hd o u (z ▸ h))⟩
theorem RowAt.nfz {C : Addr} {H : Hp} {p l d : Addr} {r : R} (S : RowAt C H p l d r) : (∀ o u, H p ≠ some (.frz o u)) ∧ (∀ o u, H l ≠ some (.frz o u)) ∧ (∀ o u, H d ≠ some (.frz o u)) := by
  obtain ⟨⟨dx, h1⟩, h2, kvs, h3, _⟩ := S
  refine ⟨fun o u e => ?_, fun o u e => ?_, fun o u e => ?_⟩
  · rw [h1] at e; cases e
  · rw [h2] at e; cases e
  · rw [h3] at e; cases e
def placeO (xs : List Int) : Option Int → Nat
  | none => 0
  | some x => xs.idxOf x + 1
/-- 0 if one is None else line.index(one) + 1 -/
theorem if_place {K : PySem.W.Frag} {σ : L2.St} {H : Hp} {Q : VK} {i j : Nat} {o : Option Int} {xs : List Int} {la : Addr} (hi : σ[i]? = some (some (oneV o))) (hj : σ[j]? = some (some (.ref la))) (hl : H la = some (.lst (xs.map V.int))) (ho : ∀ x, o = some x → x ∈ xs)
    (q : Q (.int ((placeO xs o : Nat) : Int)) H) :
    tIf (tTest (tOp (fun x y H Q => y = .non ∧ Q (.bl (decide (x = .non))) H) (tVar i) (tC .non))) (tC (.int 0)) (tOp (rI0 fun i j => .int (i + j)) (tBM K "list" (rIndex K) (tVar j) (tCons (tVar i) tNil)) (tC (.int 1))) σ H Q := by
  cases o with
  | none =>
    refine ⟨_, hi, rfl, _, rfl, ?_⟩
    exact iteT q
  | some x =>
    have hx := ho x rfl
    obtain ⟨i1, i2⟩ := idx_ok hx
    refine ⟨_, hi, rfl, _, rfl, ?_⟩
    refine iteFd (by intro z; cases z) ?_
    refine ⟨_, hj, .inl ⟨rfl, _, SqL.of hl⟩, _, hi, la, _, _, _, _, rfl, rfl, SqL.of hl, rfl, flat_ints _, i1, beq_self_eq_true x, i2, _, _, rfl, rfl, ?_⟩
    exact q
theorem place_eq (r : R) (o : Option Int) : placeO r.ord o = placeOf r o := by cases o <;> rfl
/-- the line with the new thing in it -/
theorem line_ins {r : R} {n : Nat} : (r.ord.map V.int).take n ++ [V.int (r.given : Int)] ++ (r.ord.map V.int).drop n = (ordIns r n).map V.int := by
  unfold ordIns
  rw [List.map_append, List.map_append, List.map_take, List.map_drop]
  rfl
/-- the law's line, made behind the row -/
theorem Lw.start {K : PySem.W.Frag} {C : Addr} {H2 H3 H4 : Hp} {st a : Addr} {k : Nat} {ns : List Int} {p l d : Addr} {n : Nat} {m la : Addr} (S : StAt K H2 st a k ns) (s23 : Same H2 H3) (hl : H2 l = none) (hd : H2 d = none) (W : RowAt C H3 p l d (newR n)) (G : Good (newR n))
    (s34 : Same H3 H4) (hm : H3 m = none) (hla : H3 la = none) (M : H4 m = some (.dK (mD la 0))) (L : H4 la = some (.lst [])) : Lw K C H4 st a k ns p l d (newR n) m la := by
  obtain ⟨_, h1, kvs, h2, _⟩ := id W
  exact ⟨(S.keep s23).keep s34, W.keep s34, G, ⟨M, L⟩, ne_of_none S.dc hd, (ne_of_none h2 hm).symm, ne_of_none (s23 _ _ S.dc) hm, (ne_of_none h1 hla).symm⟩
/-- behind a taking, the line without the thing -/
theorem Lw.take {K : PySem.W.Frag} {C : Addr} {H H' : Hp} {st a : Addr} {k : Nat} {ns : List Int} {p l d : Addr} {r : R} {m la : Addr} {x : Int} (I : Lw K C H st a k ns p l d r m la) (e : ∀ b u, H b = some u → b ≠ l → b ≠ d → H' b = some u) (W' : RowAt C H' p l d (takeR r x)) :
    Lw K C (upd H' la (.lst ((r.ord.erase x).map V.int))) st a k ns p l d (takeR r x) m la := by
  have hl := I.W.nfz
  have nsl : st ≠ l := (ne_of I.W.li I.S.dc (by intro z; cases z)).symm
  have nsla : st ≠ la := (ne_of I.L.li I.S.dc (by intro z; cases z)).symm
  have nml : m ≠ l := (ne_of I.W.li I.L.dc (by intro z; cases z)).symm
  have nmla : m ≠ la := (ne_of I.L.li I.L.dc (by intro z; cases z)).symm
  have S' := I.S.two e nsl I.n1 hl.2.1 hl.2.2
  have L' : H' la = some (.lst (r.ord.map V.int)) := e _ _ I.L.li I.n4 (by obtain ⟨_, h, _⟩ := I.W.di; exact ne_of I.L.li h (by intro z; cases z))
  have M' := e _ _ I.L.dc nml I.n2
  have k : ∀ b u, H' b = some u → b ≠ la → (upd H' la (.lst ((r.ord.erase x).map V.int))) b = some u := fun b u h hb => by rw [upd_ne hb]; exact h
  obtain ⟨⟨dx, o1⟩, o2, kvs, o3, _⟩ := id W'
  refine ⟨⟨k _ _ S'.dc nsla, S'.cs.keep fun o u h => k _ _ h (fun z => by rw [z, L'] at h; cases h)⟩, W'.but k (ne_of o1 L' (by intro z; cases z)) I.n4.symm (ne_of o3 L' (by intro z; cases z)), good_take I.G, ⟨k _ _ M' nmla, upd_same⟩, I.n1, I.n2, I.n3, I.n4⟩
/-- behind a putting, ahead of the line's own -/
structure Put (K : PySem.W.Frag) (C : Addr) (H : Hp) (st a : Addr) (k : Nat) (ns : List Int) (p l d : Addr) (r r' : R) (m la : Addr) : Prop where
  S : StAt K H st a k ns
  W : RowAt C H p l d r'
  G : Good r'
  L : LineAt H m la r.given r.ord
  n1 : st ≠ d
  n2 : m ≠ d
  n3 : st ≠ m
  n4 : la ≠ l
theorem Lw.put {K : PySem.W.Frag} {C : Addr} {H H' : Hp} {st a : Addr} {k : Nat} {ns : List Int} {p l l' d : Addr} {r r' : R} {m la : Addr} (I : Lw K C H st a k ns p l d r m la) (e : ∀ b u, H b = some u → b ≠ p → b ≠ d → H' b = some u) (W' : RowAt C H' p l' d r') (G' : Good r') (hl : H l' = none) : Put K C H' st a k ns p l' d r r' m la := by
  have hz := I.W.nfz
  obtain ⟨⟨dx, o1⟩, o2, kvs, o3, _⟩ := id I.W
  refine ⟨I.S.two e (ne_of I.S.dc o1 (by intro z; cases z)) I.n1 hz.1 hz.2.2, W', G', ⟨e _ _ I.L.dc (ne_of I.L.dc o1 (by intro z; cases z)) I.n2, e _ _ I.L.li (ne_of I.L.li o1 (by intro z; cases z)) (ne_of I.L.li o3 (by intro z; cases z))⟩, I.n1, I.n2, I.n3, ne_of_none I.L.li hl⟩
theorem Put.same {K : PySem.W.Frag} {C : Addr} {H H' : Hp} {st a : Addr} {k : Nat} {ns : List Int} {p l d : Addr} {r r' : R} {m la : Addr} (I : Put K C H st a k ns p l d r r' m la) (e : Same H H') : Put K C H' st a k ns p l d r r' m la :=
  ⟨I.S.keep e, I.W.keep e, I.G, I.L.keep fun b u h _ => e b u h, I.n1, I.n2, I.n3, I.n4⟩
/-- an object that is none of theirs turns -/
theorem Put.off {K : PySem.W.Frag} {C : Addr} {H H' : Hp} {st a : Addr} {k : Nat} {ns : List Int} {p l d q : Addr} {r r' : R} {m la : Addr} {xs : List V} (I : Put K C H st a k ns p l d r r' m la) (hq : H q = some (.lst xs)) (h1 : q ≠ l) (h2 : q ≠ la) (e : ∀ b u, H b = some u → b ≠ q → H' b = some u) : Put K C H' st a k ns p l d r r' m la := by
  obtain ⟨⟨dx, o1⟩, o2, kvs, o3, _⟩ := id I.W
  exact ⟨⟨e _ _ I.S.dc (ne_of I.S.dc hq (by intro z; cases z)), I.S.cs.keep fun o u h => e _ _ h (fun z => by rw [z, hq] at h; cases h)⟩, I.W.but e (ne_of o1 hq (by intro z; cases z)) h1.symm (ne_of o3 hq (by intro z; cases z)), I.G, ⟨e _ _ I.L.dc (ne_of I.L.dc hq (by intro z; cases z)), e _ _ I.L.li h2.symm⟩, I.n1, I.n2, I.n3, I.n4⟩
/-- the new thing put into the line, the next number counted on -/
theorem Put.done {K : PySem.W.Frag} {C : Addr} {H : Hp} {st a : Addr} {k : Nat} {ns : List Int} {p l d : Addr} {r : R} {n : Nat} {marked : List (Int × Int)} {m la : Addr} (I : Put K C H st a k ns p l d r (putR r n marked) m la) :
    Lw K C (upd (upd H la (.lst ((ordIns r n).map V.int))) m (.dK (mD la ((r.given : Int) + 1)))) st a k ns p l d (putR r n marked) m la := by
  obtain ⟨⟨dx, o1⟩, o2, kvs, o3, _⟩ := id I.W
  have nmla : m ≠ la := (ne_of I.L.li I.L.dc (by intro z; cases z)).symm
  have e : ∀ b u, H b = some u → b ≠ la → b ≠ m → (upd (upd H la (.lst ((ordIns r n).map V.int))) m (.dK (mD la ((r.given : Int) + 1)))) b = some u := fun b u h h1 h2 => by rw [upd_ne h2, upd_ne h1]; exact h
  refine ⟨⟨e _ _ I.S.dc (ne_of I.S.dc I.L.li (by intro z; cases z)) I.n3, I.S.cs.keep fun o u h => e _ _ h (fun z => by rw [z, I.L.li] at h; cases h) (fun z => by rw [z, I.L.dc] at h; cases h)⟩, ⟨⟨dx, e _ _ o1 (ne_of o1 I.L.li (by intro z; cases z)) (ne_of o1 I.L.dc (by intro z; cases z))⟩, e _ _ o2 I.n4.symm (ne_of o2 I.L.dc (by intro z; cases z)), kvs, e _ _ o3 (ne_of o3 I.L.li (by intro z; cases z)) I.n2.symm, I.W.di.elim fun kv q => ?_⟩, I.G, ⟨upd_same, ?_⟩, I.n1, I.n2, I.n3, I.n4⟩
  · rename_i q0
    exact q0
  · rw [upd_ne nmla.symm, upd_same]
    rfl
theorem Lw.off {K : PySem.W.Frag} {C : Addr} {H H' : Hp} {st a : Addr} {k : Nat} {ns : List Int} {p l d q : Addr} {r : R} {m la : Addr} {xs : List V} (I : Lw K C H st a k ns p l d r m la) (hq : H q = some (.lst xs)) (h1 : q ≠ l) (h2 : q ≠ la) (e : ∀ b u, H b = some u → b ≠ q → H' b = some u) : Lw K C H' st a k ns p l d r m la := by
  obtain ⟨⟨dx, o1⟩, o2, kvs, o3, _⟩ := id I.W
  exact ⟨⟨e _ _ I.S.dc (ne_of I.S.dc hq (by intro z; cases z)), I.S.cs.keep fun o u h => e _ _ h (fun z => by rw [z, hq] at h; cases h)⟩, I.W.but e (ne_of o1 hq (by intro z; cases z)) h1.symm (ne_of o3 hq (by intro z; cases z)), I.G, ⟨e _ _ I.L.dc (ne_of I.L.dc hq (by intro z; cases z)), e _ _ I.L.li h2.symm⟩, I.n1, I.n2, I.n3, I.n4⟩

/-! ### the law's own things, in their places -/
def fs4 (a st : Addr) (k : Nat) (p C l d : Addr) (r : R) (m : Addr) (g : Nat) (la : Addr) (xs : List Int) (ca : Addr) (cells : List Int) : List (Addr × Ob) :=
  [(st, .dk (stD a (k : Int))), (p, .rp C l d r), (l, .ls (r.ord.map V.int)), (d, .dm r.given r.ord r.mrk), (m, .dk (mD la (g : Int))), (la, .ls (xs.map V.int)), (ca, .ls (cells.map V.int))]
theorem getNext {H : Hp} {m la : Addr} {g : Int} (h : H m = some (.dK (mD la g))) : DGet H m (.str ("next" : Str)) (some (.int g)) := by
  rw [← mD_next la g]
  exact DGet.k (k := (Sum.inr ("next" : Str) : Key)) h
theorem getLine {H : Hp} {m la : Addr} {g : Int} (h : H m = some (.dK (mD la g))) : DGet H m (.str ("line" : Str)) (some (.ref la)) := by
  rw [← mD_line la g]
  exact DGet.k (k := (Sum.inr ("line" : Str) : Key)) h
theorem putNext {H : Hp} {m la : Addr} {g j : Int} (h : H m = some (.dK (mD la g))) : DPut H m (.str ("next" : Str)) (.int j) (upd H m (.dK (mD la j))) := by
  have e := DPut.k (k := (Sum.inr ("next" : Str) : Key)) (v := V.int j) h (smallL (by show 2 ≤ 100000; decide))
  rw [mD_put] at e
  exact e

/-- len(line) > L or n % M == 0 and line != [] -/
theorem test_over {K : PySem.W.Frag} {σ : L2.St} {H : Hp} {Q : Bool → Hp → Prop} {i j : Nat} {N M L : Int} {xs : List Int} {la : Addr} (hi : σ[i]? = some (some (.int N))) (hj : σ[j]? = some (some (.ref la))) (hl : H la = some (.lst (xs.map V.int))) (hM : 0 < M) (hL : 0 ≤ L)
    (q : ∀ b H1, Same H H1 → (b = true → 0 < xs.length) → (b = false → (xs.length : Int) ≤ L) → Q b H1) :
    tOr (tTest (tOp (rI0 fun i j => V.bl (decide (j < i))) (tCB (fun xs H Q => ∃ p ys, xs = [V.ref p] ∧ (SqL K H p ys ∨ SqT K H p ys) ∧ Q (.int ys.length) H) (tCons (tVar j) tNil)) (tC (.int L))))
      (tAnd (tTest (tOp rEq (tOp (rI (fun _ j => 0 < j) fun i j => V.int (i % j)) (tVar i) (tC (.int M))) (tC (.int 0)))) (tTest (tOp (rNeD K) (tVar j) (tLst tNil)))) σ H Q := by
  refine ⟨_, hj, la, _, rfl, .inl (SqL.of hl), _, _, rfl, rfl, _, rfl, ?_⟩
  rw [List.length_map]
  refine ite2d (fun h => ?_) (fun h => ?_)
  · exact q true H (Same.refl _) (fun _ => by omega) (fun z => by cases z)
  · exact test_take hi hj hl hM (fun b H1 s hb => q b H1 s hb fun _ => by omega)

/-! ### defs and classes that may raise, called -/
structure CalX (P : Program) (w : World) (K : PySem.W.Frag) (mg : Str → Option Value) (base : Heap) (CX : CXT) (k : Nat) (x : Str) (sp : Sp) (dvs : List V) : Prop where
  ex : ∃ (f : Addr) (fd : FuncData) (ps : List Str) (ds : List Value), FnOk P w K mg base CX k f fd ps sp ∧ mg x = some (.ref f) ∧ PySem.W.keepIn K (.ref f) = true ∧ Binds K fd ps ds ∧ Vals dvs ds
structure MakX (P : Program) (w : World) (K : PySem.W.Frag) (mg : Str → Option Value) (base : Heap) (CX : CXT) (k : Nat) (x : Str) (C : Addr) (sp : Sp) (dvs : List V) : Prop where
  ex : ∃ (f : Addr) (fd : FuncData) (ps : List Str) (ds : List Value), Mk K C f ∧ FnOk P w K mg base CX k f fd ps sp ∧ mg x = some (.ref C) ∧ Binds K fd ps ds ∧ Vals dvs ds
section
variable {X : Cx} {CX : CXT} {k j : Nat} {C : Addr} {x : Str} {sp : Sp} {dvs : List V} {p pos : Pos} {e : Expr} {es : List Expr} {t : TA} {E : XK}
theorem pe_cX (c : CalX X.prog X.w X.K X.mg X.base CX k x sp dvs) (hr : Room j X.A) (hk : k ≤ j) (hx : Passes CX X E) (hg : Gl X x) (ha : PA X (e :: es) t)
    (hdb : (x == ("__debug__" : Str)) = false := by decide) (he : starEach (e :: es) X.env = (false, eval e X.env) :: starEach es X.env := by rfl) (hpl : (backTo pos (starEach es X.env)).any (·.1) = false := by rfl) :
    PE X (.Call (.Name x p) (e :: es) [] pos) (tCall sp dvs E t) := by
  obtain ⟨f, fd, ps, ds, F, hm, kp, b, d⟩ := c.ex
  exact pe_call F (hr.mono hk) hg hm kp b d hx ha hdb he hpl
theorem pe_mkX (c : MakX X.prog X.w X.K X.mg X.base CX k x C sp dvs) (hr : Room j X.A) (hk : k + 1 ≤ j) (hx : Passes CX X E) (hg : Gl X x) (ha : PA X (e :: es) t)
    (hdb : (x == ("__debug__" : Str)) = false := by decide) (he : starEach (e :: es) X.env = (false, eval e X.env) :: starEach es X.env := by rfl) (hpl : (backTo pos (starEach es X.env)).any (·.1) = false := by rfl) :
    PE X (.Call (.Name x p) (e :: es) [] pos) (tMake C sp dvs E t) := by
  obtain ⟨f, fd, ps, ds, M, F, hm, b, d⟩ := c.ex
  exact pe_make M F (hr.mono hk) hg hm b d hx ha hdb he hpl
end
/-! ### numbers beyond their bounds, or none -/
def BadN (K : PySem.W.Frag) (H : Hp) (x : V) (lo hi : Int) : Prop := (∃ T, TyB K H x T ∧ T ≠ "int") ∨ ∃ v, x = .int v ∧ (v < lo ∨ hi < v)
def spCheckG (K : PySem.W.Frag) (CB : Addr) : Sp := fun vs H Q E => ∃ (x : V) (lo hi : Int), vs = [x, .int lo, .int hi] ∧ ((BadN K H x lo hi ∧ E (.ref CB) none H) ∨ ∃ v, x = .int v ∧ lo ≤ v ∧ v ≤ hi ∧ Q .non H)
theorem ty_ne {T : String} (h : T ≠ "int") : (!decide (T = "int")) = true := by rw [decide_eq_false h]; rfl
theorem ok_checkX (T : Txt K mg C CF CB CN CT CS c1 c2) : CalX P w K mg base (L2.CX P w) 1 "check_within" (spCheckG K CB) [] := by
  obtain ⟨f, fd, F, hm, b⟩ := T.d_check_within.ex
  refine ⟨f, fd, _, _, F.okX sc_check_within (fun vs H Q E h => ?_) (fun cdv A outer s H vs Q E hr h => ?_), hm, F.kp, b, .nil⟩
  · obtain ⟨_, _, _, rfl, _⟩ := h; rfl
  · obtain ⟨x, lo, hi, rfl, h⟩ := h
    refine ⟨_, (pss_one (ps_if (PW.pt (pw_or (pt_cmpR op_notTyB (pe_callTy call_type1 (by rfl) T.n_type (by decide +kernel) (pa_cons (pv 0) pa_nil)) (pe_bltn (v := .ty "int") (by rfl) T.n_int (by decide +kernel) rfl) (nomark _)) (pw_or (pt_cmpR op_lt (pv 0) (pv 1) (nomark _)) (pw_or1 (pt_cmpR op_gt (pv 0) (pv 2) (nomark _)))))) (pss_one (ps_raise rfl (takes_of rfl rfl rfl rfl) (pmk_own PySem.F.excBase_ValueError T.bad.ex T.bad.g T.bad.kp (raises_own T.bad.sb T.bad.ty) rfl))) pss_nil)), ?_⟩
    rcases h with ⟨⟨t, ht, hn⟩ | ⟨v, rfl, hv⟩, k⟩ | ⟨v, rfl, h1, h2, k⟩
    · refine ⟨_, rfl, _, _, rfl, ht, _, _, rfl, rfl, _, rfl, ?_⟩
      rw [ty_ne hn]
      refine iteT ?_
      exact iteT k
    · refine ⟨_, rfl, _, _, rfl, .int _, _, _, rfl, rfl, _, rfl, ?_⟩
      refine iteNS rfl ?_
      refine ⟨_, rfl, _, rfl, _, _, rfl, rfl, _, rfl, ?_⟩
      refine ite2d (fun _ => iteT k) (fun h1 => ?_)
      refine ⟨_, rfl, _, rfl, _, _, rfl, rfl, _, rfl, ?_⟩
      refine iteTd (by omega) ?_
      exact k
    · refine ⟨_, rfl, _, _, rfl, .int _, _, _, rfl, rfl, _, rfl, ?_⟩
      refine iteNS rfl ?_
      refine ⟨_, rfl, _, rfl, _, _, rfl, rfl, _, rfl, ?_⟩
      refine iteFd (by omega) ?_
      refine ⟨_, rfl, _, rfl, _, _, rfl, rfl, _, rfl, ?_⟩
      refine iteFd (by omega) ?_
      exact k
def spTooX (K : PySem.W.Frag) (CB : Addr) : Sp := fun vs H _ E => ∃ (x y : V), vs = [x, y] ∧ (BadN K H x 0 60 ∨ ((∃ v : Int, x = .int v ∧ 0 ≤ v ∧ v ≤ 60) ∧ BadN K H y 0 (2 ^ 60))) ∧ E (.ref CB) none H
theorem ok_tooX (T : Txt K mg C CF CB CN CT CS c1 c2) (XG_check_within : CalX P w K mg base (L2.CX P w) 1 "check_within" (spCheckG K CB) []) : CalX P w K mg base (L2.CX P w) 2 "is_too_full" (spTooX K CB) [] := by
  obtain ⟨f, fd, F, hm, b⟩ := T.d_is_too_full.ex
  refine ⟨f, fd, _, _, F.okX sc_is_too_full (fun vs H Q E h => ?_) (fun cdv A outer s H vs Q E hr h => ?_), hm, F.kp, b, .nil⟩
  · obtain ⟨_, _, rfl, _⟩ := h; rfl
  · obtain ⟨x, y, rfl, h, k⟩ := h
    refine ⟨_, (pss_cons (ps_expr (pe_cX XG_check_within hr (by decide) (passes_call (takes_of rfl rfl rfl rfl) fun _ _ _ _ q => q) rfl (pa_cons (pv 0) (pa_cons pe_int (pa_cons (pe_gc (by rfl) T.g_MOST_LEVEL) pa_nil)))))
      (pss_cons (ps_expr (pe_cX XG_check_within hr (by decide) (passes_call (takes_of rfl rfl rfl rfl) fun _ _ _ _ q => q) rfl (pa_cons (pv 1) (pa_cons pe_int (pa_cons (pe_op op_shl pe_int (pe_gc (by rfl) T.g_MOST_LEVEL)) pa_nil)))))
      (pss_one ps_never))), ?_⟩
    rcases h with h | ⟨⟨v, rfl, h1, h2⟩, h⟩
    · exact ⟨_, rfl, _, _, _, rfl, .inl ⟨h, k⟩⟩
    · exact ⟨_, rfl, _, _, _, rfl, .inr ⟨v, rfl, h1, h2, _, rfl, _, _, rfl, rfl, ⟨by decide, by decide, by decide⟩, _, _, _, rfl, .inl ⟨h, k⟩⟩⟩
def spAtX (K : PySem.W.Frag) (CB : Addr) : Sp := fun vs H _ E => ∃ (x y : V), vs = [x, y] ∧ (BadN K H x 0 60 ∨ ((∃ v : Int, x = .int v ∧ 0 ≤ v ∧ v ≤ 60) ∧ BadN K H y 0 (2 ^ 60 - 1))) ∧ E (.ref CB) none H
theorem ok_atX (T : Txt K mg C CF CB CN CT CS c1 c2) (XG_check_within : CalX P w K mg base (L2.CX P w) 1 "check_within" (spCheckG K CB) []) : CalX P w K mg base (L2.CX P w) 2 "stretch_at" (spAtX K CB) [] := by
  obtain ⟨f, fd, F, hm, b⟩ := T.d_stretch_at.ex
  refine ⟨f, fd, _, _, F.okX sc_stretch_at (fun vs H Q E h => ?_) (fun cdv A outer s H vs Q E hr h => ?_), hm, F.kp, b, .nil⟩
  · obtain ⟨_, _, rfl, _⟩ := h; rfl
  · obtain ⟨x, y, rfl, h, k⟩ := h
    refine ⟨_, (pss_cons (ps_expr (pe_cX XG_check_within hr (by decide) (passes_call (takes_of rfl rfl rfl rfl) fun _ _ _ _ q => q) rfl (pa_cons (pv 0) (pa_cons pe_int (pa_cons (pe_gc (by rfl) T.g_MOST_LEVEL) pa_nil)))))
      (pss_cons (ps_expr (pe_cX XG_check_within hr (by decide) (passes_call (takes_of rfl rfl rfl rfl) fun _ _ _ _ q => q) rfl (pa_cons (pv 1) (pa_cons pe_int (pa_cons (pe_op op_sub (pe_op op_shl pe_int (pe_gc (by rfl) T.g_MOST_LEVEL)) pe_int) pa_nil)))))
      (pss_cons ps_never
      (pss_one ps_never)))), ?_⟩
    rcases h with h | ⟨⟨v, rfl, h1, h2⟩, h⟩
    · exact ⟨_, rfl, _, _, _, rfl, .inl ⟨h, k⟩⟩
    · exact ⟨_, rfl, _, _, _, rfl, .inr ⟨v, rfl, h1, h2, _, rfl, _, _, rfl, rfl, ⟨by decide, by decide, by decide⟩, _, _, rfl, rfl, _, _, _, rfl, .inl ⟨h, k⟩⟩⟩
def spSpreadX (K : PySem.W.Frag) (CB : Addr) : Sp := fun vs H _ E => ∃ (x y z : V), vs = [x, y, z] ∧ (BadN K H x 0 60 ∨ ((∃ v : Int, x = .int v ∧ 0 ≤ v ∧ v ≤ 60) ∧ BadN K H y 0 (2 ^ 60 - 1)) ∨ ((∃ l : Nat, x = .int (l : Int) ∧ l ≤ 60 ∧ BadN K H z 0 (if (1024 : Int) < 2 ^ l then 1024 else 2 ^ l)) ∧ ∃ u : Int, y = .int u ∧ 0 ≤ u ∧ u ≤ 2 ^ 60 - 1)) ∧ E (.ref CB) none H
theorem ok_spreadX (T : Txt K mg C CF CB CN CT CS c1 c2) (XG_check_within : CalX P w K mg base (L2.CX P w) 1 "check_within" (spCheckG K CB) []) : CalX P w K mg base (L2.CX P w) 2 "spread" (spSpreadX K CB) [] := by
  obtain ⟨f, fd, F, hm, b⟩ := T.d_spread.ex
  refine ⟨f, fd, _, _, F.okX sc_spread (fun vs H Q E h => ?_) (fun cdv A outer s H vs Q E hr h => ?_), hm, F.kp, b, .nil⟩
  · obtain ⟨_, _, _, rfl, _⟩ := h; rfl
  · obtain ⟨x, y, z, rfl, h, k⟩ := h
    refine ⟨_, (pss_cons (ps_expr (pe_cX XG_check_within hr (by decide) (passes_call (takes_of rfl rfl rfl rfl) fun _ _ _ _ q => q) rfl (pa_cons (pv 0) (pa_cons pe_int (pa_cons (pe_gc (by rfl) T.g_MOST_LEVEL) pa_nil)))))
      (pss_cons (ps_expr (pe_cX XG_check_within hr (by decide) (passes_call (takes_of rfl rfl rfl rfl) fun _ _ _ _ q => q) rfl (pa_cons (pv 1) (pa_cons pe_int (pa_cons (pe_op op_sub (pe_op op_shl pe_int (pe_gc (by rfl) T.g_MOST_LEVEL)) pe_int) pa_nil)))))
      (pss_cons (ps_set (i := 3) sc_spread.nd rfl (Or.inr rfl) (pe_op op_shl pe_int (pv 0)))
      (pss_cons (ps_expr (pe_cX XG_check_within hr (by decide) (passes_call (takes_of rfl rfl rfl rfl) fun _ _ _ _ q => q) rfl (pa_cons (pv 2) (pa_cons pe_int (pa_cons (pe_callB (id := "min") (call_min2 rfl) (by rfl) T.n_min (by decide +kernel) (pa_cons (pv 3) (pa_cons (pe_gc (by rfl) T.g_MOST_SPREAD) pa_nil))) pa_nil)))))
      (pss_one ps_never))))), ?_⟩
    rcases h with h | ⟨⟨v, rfl, h1, h2⟩, h⟩ | ⟨⟨l, rfl, hl, h⟩, u, rfl, h1, h2⟩
    · exact ⟨_, rfl, _, _, _, rfl, .inl ⟨h, k⟩⟩
    · exact ⟨_, rfl, _, _, _, rfl, .inr ⟨v, rfl, h1, h2, _, rfl, _, _, rfl, rfl, ⟨by decide, by decide, by decide⟩, _, _, rfl, rfl, _, _, _, rfl, .inl ⟨h, k⟩⟩⟩
    · refine ⟨_, rfl, _, _, _, rfl, .inr ⟨_, rfl, by omega, by omega, _, rfl, _, _, rfl, rfl, ⟨by decide, by decide, by decide⟩, _, _, rfl, rfl, _, _, _, rfl, .inr ⟨u, rfl, h1, h2, ?_⟩⟩⟩
      refine ⟨_, rfl, _, _, rfl, rfl, ⟨by omega, by omega, by decide⟩, ?_⟩
      dsimp only
      rw [shl_one]
      exact ⟨_, rfl, _, rfl, _, _, rfl, _, _, _, rfl, .inl ⟨h, k⟩⟩
def spInitX (K : PySem.W.Frag) (CB : Addr) : Sp := fun vs H _ E => ∃ (p : Addr) (x : V), vs = [.ref p, x] ∧ BadN K H x 4 60 ∧ E (.ref CB) none H
theorem ok_initX (T : Txt K mg C CF CB CN CT CS c1 c2) (XG_check_within : CalX P w K mg base (L2.CX P w) 1 "check_within" (spCheckG K CB) []) : MakX P w K mg base (L2.CX P w) 2 "Row" C (spInitX K CB) [] := by
  obtain ⟨f, fd, M, F, b⟩ := T.mkRow.ex
  refine ⟨f, fd, _, _, M, F.okX sc_Row___init__ (fun vs H Q E h => ?_) (fun cdv A outer s H vs Q E hr h => ?_), T.gRow, b, .nil⟩
  · obtain ⟨_, _, rfl, _⟩ := h; rfl
  · obtain ⟨p, x, rfl, h, k⟩ := h
    refine ⟨_, (pss_cons (ps_expr (pe_cX XG_check_within hr (by decide) (passes_call (takes_of rfl rfl rfl rfl) fun _ _ _ _ q => q) rfl (pa_cons (pv 1) (pa_cons (pe_gc (by rfl) T.g_LEAST_WIDE) (pa_cons (pe_gc (by rfl) T.g_MOST_WIDE) pa_nil)))))
      (pss_cons ps_never
      (pss_cons ps_never
      (pss_cons ps_never
      (pss_cons ps_never
      (pss_one ps_never)))))), ?_⟩
    exact ⟨_, rfl, _, _, _, rfl, .inl ⟨h, k⟩⟩
/-! ### things that are none -/
def BadT (K : PySem.W.Frag) (H : Hp) (r : R) (x : V) : Prop := (∃ T, TyB K H x T ∧ T ≠ "int") ∨ ∃ v, x = .int v ∧ ¬ v ∈ r.ord
def spChkG (K : PySem.W.Frag) (C CN : Addr) : Sp := fun vs H Q E => ∃ (p l d : Addr) (r : R) (x : V), vs = [.ref p, x] ∧ RowAt C H p l d r ∧ ((BadT K H r x ∧ E (.ref CN) none H) ∨ ∃ v, x = .int v ∧ v ∈ r.ord ∧ Q .non H)
theorem ok_chkX (T : Txt K mg C CF CB CN CT CS c1 c2) : MetX P w K mg base (L2.CX P w) 1 C "_check_thing" (spChkG K C CN) [] := by
  obtain ⟨f, fd, ds, F, hm, b, dv⟩ := T.m__check_thing.ex
  refine ⟨f, fd, _, _, T.cl, hm, F.okX sc_Row__check_thing (fun vs H Q E h => ?_) (fun cdv A outer s H vs Q E hr h => ?_), b, dv⟩
  · obtain ⟨_, _, _, _, _, rfl, _⟩ := h; rfl
  · obtain ⟨p, l, d, r, x, rfl, S, h⟩ := h
    obtain ⟨⟨dx, ho⟩, hl, kvs, hd, hn, D⟩ := id S
    refine ⟨_, (pss_one (ps_if (PW.pt (pw_or (pt_cmpR op_notTyB (pe_callTy call_type1 (by rfl) T.n_type (by decide +kernel) (pa_cons (pv 1) pa_nil)) (pe_bltn (v := .ty "int") (by rfl) T.n_int (by decide +kernel) rfl) (nomark _)) (pw_or1 (pt_cmp (pc_dnotin (hu_of hr) (pv 1) (pe_fld (pv 0) rfl)))))) (pss_one (ps_raise rfl (takes_of rfl rfl rfl rfl) (pmk_own PySem.F.excBase_ValueError T.nothing.ex T.nothing.g T.nothing.kp (raises_own T.nothing.sb T.nothing.ty) rfl))) pss_nil)), ?_⟩
    rcases h with ⟨⟨t, ht, hne⟩ | ⟨v, rfl, hv⟩, k⟩ | ⟨v, rfl, hv, k⟩
    · refine ⟨_, rfl, _, _, rfl, ht, _, _, rfl, rfl, _, rfl, ?_⟩
      rw [ty_ne hne]
      refine iteT ?_
      exact iteT k
    · refine ⟨_, rfl, _, _, rfl, .int _, _, _, rfl, rfl, _, rfl, ?_⟩
      refine iteNS rfl ?_
      refine ⟨_, rfl, _, rfl, p, C, dx, _, _, rfl, ho, T.cl, T.nM, fl_marks .., d, _, rfl, DGet.k (k := Sum.inl v) hd, _, rfl, ?_⟩
      rw [D.get, if_neg hv]
      refine iteT ?_
      exact k
    · refine ⟨_, rfl, _, _, rfl, .int _, _, _, rfl, rfl, _, rfl, ?_⟩
      refine iteNS rfl ?_
      refine ⟨_, rfl, _, rfl, p, C, dx, _, _, rfl, ho, T.cl, T.nM, fl_marks .., d, _, rfl, DGet.k (k := Sum.inl v) hd, _, rfl, ?_⟩
      rw [D.get, if_pos hv]
      refine iteF ?_
      exact k
def spOneX (K : PySem.W.Frag) (C CN : Addr) : Sp := fun vs H _ E => ∃ (p l d : Addr) (r : R) (x : V), vs = [.ref p, x] ∧ RowAt C H p l d r ∧ BadT K H r x ∧ E (.ref CN) none H
theorem ok_takeX (T : Txt K mg C CF CB CN CT CS c1 c2) (XM__check_thing : MetX P w K mg base (L2.CX P w) 1 C "_check_thing" (spChkG K C CN) []) : MetX P w K mg base (L2.CX P w) 2 C "take" (spOneX K C CN) [] := by
  obtain ⟨f, fd, ds, F, hm, b, dv⟩ := T.m_take.ex
  refine ⟨f, fd, _, _, T.cl, hm, F.okX sc_Row_take (fun vs H Q E h => ?_) (fun cdv A outer s H vs Q E hr h => ?_), b, dv⟩
  · obtain ⟨_, _, _, _, _, rfl, _⟩ := h; rfl
  · obtain ⟨p, l, d, r, x, rfl, S, hb, k⟩ := h
    obtain ⟨dx, ho⟩ := S.ob
    refine ⟨_, (pss_cons (ps_expr (pe_mtX XM__check_thing hr (by decide) (passes_call (takes_of rfl rfl rfl rfl) fun _ _ _ _ q => q) (pv 0) (pa_cons (pv 1) pa_nil)))
      (pss_cons ps_never
      (pss_one ps_never))), ?_⟩
    exact ⟨_, rfl, p, dx, _, rfl, ho, rfl, _, rfl, p, l, d, r, x, rfl, S, .inl ⟨hb, k⟩⟩
theorem ok_markX (T : Txt K mg C CF CB CN CT CS c1 c2) (XM__check_thing : MetX P w K mg base (L2.CX P w) 1 C "_check_thing" (spChkG K C CN) []) : MetX P w K mg base (L2.CX P w) 2 C "mark" (spOneX K C CN) [] := by
  obtain ⟨f, fd, ds, F, hm, b, dv⟩ := T.m_mark.ex
  refine ⟨f, fd, _, _, T.cl, hm, F.okX sc_Row_mark (fun vs H Q E h => ?_) (fun cdv A outer s H vs Q E hr h => ?_), b, dv⟩
  · obtain ⟨_, _, _, _, _, rfl, _⟩ := h; rfl
  · obtain ⟨p, l, d, r, x, rfl, S, hb, k⟩ := h
    obtain ⟨dx, ho⟩ := S.ob
    refine ⟨_, (pss_cons (ps_expr (pe_mtX XM__check_thing hr (by decide) (passes_call (takes_of rfl rfl rfl rfl) fun _ _ _ _ q => q) (pv 0) (pa_cons (pv 1) pa_nil)))
      (pss_one ps_never)), ?_⟩
    exact ⟨_, rfl, p, dx, _, rfl, ho, rfl, _, rfl, p, l, d, r, x, rfl, S, .inl ⟨hb, k⟩⟩
def spTwoX (K : PySem.W.Frag) (C CN : Addr) : Sp := fun vs H _ E => ∃ (p l d : Addr) (r : R) (x y : V), vs = [.ref p, x, y] ∧ RowAt C H p l d r ∧ (BadT K H r x ∨ ((∃ v, x = .int v ∧ v ∈ r.ord) ∧ BadT K H r y)) ∧ E (.ref CN) none H
theorem ok_aheadX (T : Txt K mg C CF CB CN CT CS c1 c2) (XM__check_thing : MetX P w K mg base (L2.CX P w) 1 C "_check_thing" (spChkG K C CN) []) : MetX P w K mg base (L2.CX P w) 2 C "is_ahead" (spTwoX K C CN) [] := by
  obtain ⟨f, fd, ds, F, hm, b, dv⟩ := T.m_is_ahead.ex
  refine ⟨f, fd, _, _, T.cl, hm, F.okX sc_Row_is_ahead (fun vs H Q E h => ?_) (fun cdv A outer s H vs Q E hr h => ?_), b, dv⟩
  · obtain ⟨_, _, _, _, _, _, rfl, _⟩ := h; rfl
  · obtain ⟨p, l, d, r, x, y, rfl, S, hb, k⟩ := h
    obtain ⟨dx, ho⟩ := S.ob
    refine ⟨_, (pss_cons (ps_expr (pe_mtX XM__check_thing hr (by decide) (passes_call (takes_of rfl rfl rfl rfl) fun _ _ _ _ q => q) (pv 0) (pa_cons (pv 1) pa_nil)))
      (pss_cons (ps_expr (pe_mtX XM__check_thing hr (by decide) (passes_call (takes_of rfl rfl rfl rfl) fun _ _ _ _ q => q) (pv 0) (pa_cons (pv 2) pa_nil)))
      (pss_one ps_never))), ?_⟩
    rcases hb with hb | ⟨⟨v, rfl, hv⟩, hb⟩
    · exact ⟨_, rfl, p, dx, _, rfl, ho, rfl, _, rfl, p, l, d, r, x, rfl, S, .inl ⟨hb, k⟩⟩
    · exact ⟨_, rfl, p, dx, _, rfl, ho, rfl, _, rfl, p, l, d, r, _, rfl, S, .inr ⟨v, rfl, hv, _, rfl, p, dx, _, rfl, ho, rfl, _, rfl, p, l, d, r, y, rfl, S, .inl ⟨hb, k⟩⟩⟩
/-! ### put: no thing; 200 are there -/
def spPlaceG (K : PySem.W.Frag) (C CN : Addr) : Sp := fun vs H Q E => ∃ (p l d : Addr) (r : R) (x : V), vs = [.ref p, x] ∧ RowAt C H p l d r ∧ ((x ≠ .non ∧ BadT K H r x ∧ E (.ref CN) none H) ∨ ∃ o, x = oneV o ∧ (∀ y, o = some y → y ∈ r.ord) ∧ Q (.int (placeOf r o : Nat)) H)
theorem ok_placeX (T : Txt K mg C CF CB CN CT CS c1 c2) (XM__check_thing : MetX P w K mg base (L2.CX P w) 1 C "_check_thing" (spChkG K C CN) []) : MetX P w K mg base (L2.CX P w) 2 C "_place_behind" (spPlaceG K C CN) [] := by
  obtain ⟨f, fd, ds, F, hm, b, dv⟩ := T.m__place_behind.ex
  refine ⟨f, fd, _, _, T.cl, hm, F.okX sc_Row__place_behind (fun vs H Q E h => ?_) (fun cdv A outer s H vs Q E hr h => ?_), b, dv⟩
  · obtain ⟨_, _, _, _, _, rfl, _⟩ := h; rfl
  · obtain ⟨p, l, d, r, x, rfl, S, h⟩ := h
    obtain ⟨⟨dx, ho⟩, hl, kvs, hd, hn, D⟩ := id S
    refine ⟨_, (pss_cons (ps_if (pt_cmpR op_isN (pv 1) pe_non (nomark _)) (pss_one (ps_ret pe_int)) pss_nil)
      (pss_cons (ps_expr (pe_mtX XM__check_thing hr (by decide) (passes_call (takes_of rfl rfl rfl rfl) fun _ _ _ _ q => q) (pv 0) (pa_cons (pv 1) pa_nil)))
      (pss_one (ps_ret (pe_op op_add (pe_bm PySem.F.plainAttrs_list PySem.F.slot_list_index PySem.F.type_list_index mt_index (pe_fld (pv 0) rfl) (pa_cons (pv 1) pa_nil)) pe_int))))), ?_⟩
    rcases h with ⟨hx, hb, k⟩ | ⟨o, rfl, hx, k⟩
    · refine ⟨_, rfl, rfl, _, rfl, ?_⟩
      refine iteFd hx ?_
      exact ⟨_, rfl, p, dx, _, rfl, ho, rfl, _, rfl, p, l, d, r, x, rfl, S, .inl ⟨hb, k⟩⟩
    · cases o with
      | none =>
        refine ⟨_, rfl, rfl, _, rfl, ?_⟩
        exact iteT k
      | some y =>
        have hy := hx y rfl
        obtain ⟨i1, i2⟩ := idx_ok hy
        refine ⟨_, rfl, rfl, _, rfl, ?_⟩
        refine iteFd (by intro z; cases z) ?_
        refine ⟨_, rfl, p, dx, _, rfl, ho, rfl, _, rfl, p, l, d, r, _, rfl, S, .inr ⟨y, rfl, hy, ?_⟩⟩
        exact ⟨_, rfl, p, C, dx, _, _, rfl, ho, T.cl, T.nO, fl_order .., .inl ⟨rfl, _, SqL.of hl⟩, _, rfl, l, _, _, _, _, rfl, rfl, SqL.of hl, rfl, flat_ints _, i1, beq_self_eq_true y, i2, _, _, rfl, rfl, k⟩
def spPutX (K : PySem.W.Frag) (C CN CT : Addr) : Sp := fun vs H _ E => ∃ (p l d : Addr) (r : R) (x : V), vs = [.ref p, x] ∧ RowAt C H p l d r ∧ ((x ≠ .non ∧ BadT K H r x ∧ E (.ref CN) none H) ∨ ((∃ o, x = oneV o ∧ ∀ y, o = some y → y ∈ r.ord) ∧ 200 ≤ r.ord.length ∧ E (.ref CT) none H))
theorem ok_putFX (T : Txt K mg C CF CB CN CT CS c1 c2) (XM__place_behind : MetX P w K mg base (L2.CX P w) 2 C "_place_behind" (spPlaceG K C CN) [])
    {f : Addr} {fd : FuncData} (F : FunD K "put" "Row.put" (defArgs s_Row_put) (defBody s_Row_put) (defScope s_Row_put) [.non] [] f fd) : FnOk P w K mg base (L2.CX P w) 3 f fd ["self", "one"] (spPutX K C CN CT) := by
  refine F.ok sc_Row_put (fun vs H Q E h => ?_) (fun cdv A outer s H vs Q E hr h => ?_)
  · obtain ⟨_, _, _, _, _, rfl, _⟩ := h; rfl
  · obtain ⟨p, l, d, r, x, rfl, S, h⟩ := h
    obtain ⟨⟨dx, hob⟩, hl, _⟩ := id S
    refine ⟨_, (pss_cons (ps_set (i := 2) sc_Row_put.nd rfl (Or.inl rfl) (pe_mtX XM__place_behind hr (by decide) (passes_call (takes_of rfl rfl rfl rfl) fun _ _ _ _ q => q) (pv 0) (pa_cons (pv 1) pa_nil)))
      (pss_cons (ps_if (pt_cmpR op_ge (pe_callB (id := "len") call_len_seq (by rfl) T.n_len (by decide +kernel) (pa_cons (pe_fld (pv 0) rfl) pa_nil)) (pe_gc (by rfl) T.g_MOST_THINGS) (nomark _)) (pss_one (ps_raise rfl (takes_of rfl rfl rfl rfl) (pmk_own PySem.F.excBase_ValueError T.many.ex T.many.g T.many.kp (raises_own T.many.sb T.many.ty) rfl))) pss_nil)
      (pss_cons ps_never
      (pss_cons ps_never
      (pss_cons ps_never
      (pss_cut ps_never
      (pss_cons ps_never
      (pss_cons ps_never
      (pss_cons ps_never
      (pss_cons ps_never
      (pss_cons ps_never
      (pss_one ps_never)))))))))))), ?_⟩
    rcases h with ⟨hx, hb, k⟩ | ⟨⟨o, rfl, hx⟩, h200, k⟩
    · exact ⟨_, rfl, p, dx, _, rfl, hob, rfl, _, rfl, p, l, d, r, x, rfl, S, .inl ⟨hx, hb, k⟩⟩
    · refine ⟨_, rfl, p, dx, _, rfl, hob, rfl, _, rfl, p, l, d, r, _, rfl, S, .inr ⟨o, rfl, hx, ?_⟩⟩
      refine ⟨_, rfl, p, C, dx, _, _, rfl, hob, T.cl, T.nO, fl_order .., l, _, rfl, .inl (SqL.of hl), _, _, rfl, rfl, _, rfl, ?_⟩
      rw [List.length_map]
      refine iteTd (by omega) ?_
      exact k
theorem ok_putX (T : Txt K mg C CF CB CN CT CS c1 c2) (XM__place_behind : MetX P w K mg base (L2.CX P w) 2 C "_place_behind" (spPlaceG K C CN) []) :
    MetX P w K mg base (L2.CX P w) 3 C "put" (spPutX K C CN CT) [] ∧ MetX P w K mg base (L2.CX P w) 3 C "put" (spPutX K C CN CT) [.non] := by
  obtain ⟨f, fd, F, hm, b1, ds, dv, b0⟩ := T.m_put.ex
  exact ⟨⟨f, fd, _, _, T.cl, hm, ok_putFX T XM__place_behind F, b1, .nil⟩, ⟨f, fd, _, _, T.cl, hm, ok_putFX T XM__place_behind F, b0, dv⟩⟩

theorem kit_yes {K : PySem.W.Frag} {D C : Addr} (hi : PySem.W.isClsIn K C = true) (ht : PySem.W.typeIn K (.ref C) = some (.type "type")) (hs : PySem.W.subIn K (.ref D) (.ref C) = some true) : PySem.W.kitOne K (.ref D) (.ref C) = some true := by
  unfold PySem.W.kitOne
  split
  · rfl
  · have e : ((PySem.W.clsIn K C).isSome && PySem.W.typeIn K (.ref C) == some (.type "type")) = true := by
      rw [show (PySem.W.clsIn K C).isSome = true from hi, ht]; rfl
    show (if _ then _ else none) = _
    rw [if_pos e]
    exact hs
theorem kit_no {K : PySem.W.Frag} {D C : Addr} (hi : PySem.W.isClsIn K C = true) (ht : PySem.W.typeIn K (.ref C) = some (.type "type")) (h1 : PySem.W.subIn K (.ref D) (.ref D) = some true) (hs : PySem.W.subIn K (.ref D) (.ref C) = some false) : PySem.W.kitOne K (.ref D) (.ref C) = some false := by
  unfold PySem.W.kitOne
  split
  · rename_i z
    have e : Value.ref D = Value.ref C := by simpa using z
    rw [← e, h1] at hs
    cases hs
  · have e : ((PySem.W.clsIn K C).isSome && PySem.W.typeIn K (.ref C) == some (.type "type")) = true := by
      rw [show (PySem.W.clsIn K C).isSome = true from hi, ht]; rfl
    show (if _ then _ else none) = _
    rw [if_pos e]
    exact hs
theorem kit_ve {K : PySem.W.Frag} {D : Addr} (hs : PySem.W.subIn K (.ref D) (.type "ValueError") = some true) : PySem.W.kitOne K (.ref D) (.type "ValueError") = some true := by
  unfold PySem.W.kitOne
  split
  · rfl
  · show (if PySem.W.kitMeta "ValueError" = true then _ else none) = _
    rw [if_pos (by decide +kernel)]
    exact hs

/-! ### l.count(x) of flat things -/
def rCntF (K : PySem.W.Frag) : V → List V → Hp → VK → Prop := fun x xs H Q => ∃ (a : Addr) (ys : List V) (y : V), x = .ref a ∧ xs = [y] ∧ SqL K H a ys ∧ flatV y = true ∧ ys.all flatV = true ∧ Q (.int ((ys.countP fun z => eqV z y : Nat) : Int)) H
theorem count_flat {y : V} : ∀ {ys : List V} {us : List Value}, Vals ys us → ys.all flatV = true → us.countP (eqU y) = ys.countP fun z => eqV z y
  | _, _, .nil, _ => rfl
  | z :: ys, u :: us, .cons r t, f => by
    rw [List.all_cons, Bool.and_eq_true] at f
    rw [List.countP_cons, List.countP_cons, count_flat t f.2, eqU_of r f.1]
theorem mt_cntF {X : Cx} : MtR X "list.count" (rCntF X.K) := by
  intro pins s σ H x xs v us Q I rx rxs h
  obtain ⟨a, ys, y, rfl, rfl, hs, fy, fys, q⟩ := h
  obtain rfl : v = Value.ref a := rx
  obtain ⟨u, rfl, ru⟩ := rxs.one
  obtain ⟨its, rv, ⟨⟨oc, od, da, sl⟩, n, ho, hc, hdn, hd⟩, hl⟩ := I.list hs
  simp only at hc hd
  subst hc hd
  refine call_meets PySem.F.slot_list_count ⟨_, ho, rfl⟩ PySem.F.entry_list_count (PySem.F.args_list_count_2 _ _) (SeqAt.list_countAt a its.toArray n od sl u (eqU y)) ⟨ho, fun u' hu' => mem_eqAt ru fy rv fys u' (by simpa using hu'), ?_⟩
  have ec : its.toArray.toList.countP (eqU y) = ys.countP fun z => eqV z y := count_flat rv fys
  refine ⟨.int ((ys.countP fun z => eqV z y : Nat) : Int), H, I.tok _, ⟨s.toks, ?_⟩, q⟩
  show Value.int ((its.toArray.toList.countP (eqU y) : Nat) : Int) s.toks = _
  rw [ec]
/-! ### the word of a refusal -/
def SaidW (CB CN CT : Addr) (cls : Value) (wd : Str) : Prop := (cls = .ref CB ∧ wd = "wide") ∨ (cls = .ref CN ∧ wd = "thing") ∨ (cls = .ref CT ∧ wd = "many")
def TSaid (CB CN CT : Addr) : (XK → Hp → VK → Prop) → Hp → VK → Prop := fun tl H Q => ∀ R : VK, (∀ v H', Q (.str "told") H' → R v H') → tl (fun cls d H' => d = none ∧ ∃ wd, SaidW CB CN CT cls wd ∧ ∀ H'', Same H' H'' → Q (.str wd) H'') H R
structure WordOk (K : PySem.W.Frag) (CB CN CT CF CS D : Addr) (b1 b2 b3 b4 : Bool) (j : Nat) (wd : Str) : Prop where
  e : ErrC K D
  s : PySem.W.exmOne K (.ref D) (.ref CS) = some true
  k1 : PySem.W.kitOne K (.ref D) (.ref CB) = some b1
  k2 : PySem.W.kitOne K (.ref D) (.ref CN) = some b2
  k3 : PySem.W.kitOne K (.ref D) (.ref CT) = some b3
  k4 : PySem.W.kitOne K (.ref D) (.ref CF) = some b4
  kv : PySem.W.kitOne K (.ref D) (.type "ValueError") = some true
  c : ([V.bl b1, V.bl b2, V.bl b3, V.bl b4].countP fun z => eqV z (V.bl true)) = 1
  at_ : [V.bl b1, V.bl b2, V.bl b3, V.bl b4][j]? = some (V.bl true)
  no : ∀ (m : Nat) (z : V), m < j → [V.bl b1, V.bl b2, V.bl b3, V.bl b4][m]? = some z → eqV z (V.bl true) = false
  wd : [V.str "wide", V.str "thing", V.str "many", V.str "full"][j]? = some (V.str wd)
theorem word_ok (T : Txt K mg C CF CB CN CT CS c1 c2) {cls : Value} {wd : Str} (h : SaidW CB CN CT cls wd) : ∃ D b1 b2 b3 b4 j, cls = .ref D ∧ WordOk K CB CN CT CF CS D b1 b2 b3 b4 j wd := by
  rcases h with ⟨rfl, rfl⟩ | ⟨rfl, rfl⟩ | ⟨rfl, rfl⟩
  · refine ⟨CB, true, false, false, false, 0, rfl, T.eB, exm_sub T.b_S T.i_S T.t_S T.s_BS, kit_yes T.bad.ic T.bad.ty T.bad.ss, kit_no T.nothing.ic T.nothing.ty T.bad.ss T.s_BN, kit_no T.many.ic T.many.ty T.bad.ss T.s_BT, kit_no T.full.ic T.full.ty T.bad.ss T.s_BF, kit_ve T.v_B, by decide, rfl, fun m z hm => ?_, rfl⟩
    omega
  · refine ⟨CN, false, true, false, false, 1, rfl, T.eN, exm_sub T.b_S T.i_S T.t_S T.s_NS, kit_no T.bad.ic T.bad.ty T.nothing.ss T.s_NB, kit_yes T.nothing.ic T.nothing.ty T.nothing.ss, kit_no T.many.ic T.many.ty T.nothing.ss T.s_NT, kit_no T.full.ic T.full.ty T.nothing.ss T.s_NF, kit_ve T.v_N, by decide, rfl, fun m z hm e => ?_, rfl⟩
    obtain rfl : m = 0 := by omega
    cases e
    rfl
  · refine ⟨CT, false, false, true, false, 2, rfl, T.eT, exm_sub T.b_S T.i_S T.t_S T.s_TS, kit_no T.bad.ic T.bad.ty T.many.ss T.s_TB, kit_no T.nothing.ic T.nothing.ty T.many.ss T.s_TN, kit_yes T.many.ic T.many.ty T.many.ss, kit_no T.full.ic T.full.ty T.many.ss T.s_TF, kit_ve T.v_T, by decide, rfl, fun m z hm e => ?_, rfl⟩
    have hm2 : m = 0 ∨ m = 1 := by omega
    rcases hm2 with rfl | rfl <;> cases e <;> rfl
theorem takes_len {Z : Cx} {W : WX} (t : Takes Z W) : Takes Z (fun cls d σ H => σ.length = Z.N.length → W cls d σ H) := fun u s' h => by
  obtain ⟨a, B, sI, pins, σ, H, cls, d, e, I, nb, up, sky, na, os, ag, w⟩ := h
  exact t u s' ⟨a, B, sI, pins, σ, H, cls, d, e, I, nb, up, sky, na, os, ag, w I.len⟩
/-- the body of the try: the lambda that was handed in is called -/
theorem lam_body {Z : Cx} {W : WX} {a : Str} {p1 p2 p3 : Pos} {f c' : Addr} {q : Str} {tl : XK → Hp → VK → Prop} {n : Nat} (h : ∀ E : XK, (∀ cls d σ' H', E cls d H' → σ'.length = n → W cls d σ' H') → PE Z (.Call (.Name a p1) [] [] p2) (fun σZ HZ Q => σZ[0]? = some (some (.ref f)) ∧ HZ c' = some (LamX.CodeO c' q) ∧ tl E HZ Q)) :
    PSs Z [.Expr (.Call (.Name a p1) [] [] p2) p3] (fun D σ H => ∃ Ech : XK, (∀ cls d σ' H', Ech cls d H' → σ'.length = n → W cls d σ' H') ∧ σ[0]? = some (some (.ref f)) ∧ H c' = some (LamX.CodeO c' q) ∧ tl Ech H fun _ H' => D.nx σ H') := by
  refine ⟨fun pins s σ H D I hw => ?_⟩
  obtain ⟨Ech, hW, h1, h2, h3⟩ := hw
  exact (pss_one (ps_expr (pos := p3) (h Ech hW))).run pins s σ H D I ⟨h1, h2, h3⟩
theorem said_gives {X : Cx} (T : Txt X.K X.mg C CF CB CN CT CS c1 c2) {g : Addr} {cdg : Value} {q : Str} :
    LamX.GivesTo X ["_law_worker", "_law_caught", "e", "_law_some"] "_law_said" (defScope s__law_said) g cdg (defBody s__law_said) "_law_worker" q (TSaid CB CN CT) := by
  intro f c' s H Q tl act hc h
  refine ⟨_, (pss_cons (ps_set (i := 1) sc__law_said.nd rfl (Or.inl rfl) pe_non)
      (pss_cons (ps_try_kept (i := 2) (j := 1) (tb := fun W => fun D σ H => ∃ Ech : XK, (∀ cls d σ' H', Ech cls d H' → σ'.length = 4 → W cls d σ' H') ∧ σ[0]? = some (some (.ref f)) ∧ H c' = some (LamX.CodeO c' q) ∧ tl Ech H fun _ H' => D.nx σ H') (Wo := fun _ _ _ _ => False) rfl rfl rfl sc__law_said.nd rfl (by show 2 < 4; decide) rfl ⟨rfl, by decide, Or.inl T.g_SeatError⟩ L2.takes0
        (fun W pn xe tk _ => (lam_body (n := 4) fun Ech hW => act _ pn xe Ech _ _ (takes_len tk) hW))
        (fun _ _ _ => (pss_one (ps_set (i := 1) sc__law_said.nd rfl (Or.inl rfl) (pv 2)))))
      (pss_cons (ps_if (pt_cmpR op_isN (pv 1) pe_non (nomark _)) (pss_one (ps_ret pe_str)) pss_nil)
      (pss_cons (ps_set (i := 3) sc__law_said.nd rfl (Or.inl rfl) (pe_lst (pa_cons (pe_callB (id := "isinstance") call_isErr (by rfl) T.n_isinstance (by decide +kernel) (pa_cons (pv 1) (pa_cons (pe_glob (v := .ref _) rfl T.bad.g rfl) pa_nil))) (pa_cons (pe_callB (id := "isinstance") call_isErr (by rfl) T.n_isinstance (by decide +kernel) (pa_cons (pv 1) (pa_cons (pe_glob (v := .ref _) rfl T.nothing.g rfl) pa_nil))) pa_nil))))
      (pss_cons (ps_set (i := 3) sc__law_said.nd rfl (Or.inl rfl) (pe_op op_cat (pv 3) (pe_lst (pa_cons (pe_callB (id := "isinstance") call_isErr (by rfl) T.n_isinstance (by decide +kernel) (pa_cons (pv 1) (pa_cons (pe_glob (v := .ref _) rfl T.many.g rfl) pa_nil))) (pa_cons (pe_callB (id := "isinstance") call_isErr (by rfl) T.n_isinstance (by decide +kernel) (pa_cons (pv 1) (pa_cons (pe_glob (v := .ref _) rfl T.full.g rfl) pa_nil))) pa_nil)))))
      (pss_cons (ps_if (PW.pt (pw_or (pt_cmpR op_ne (pe_bm PySem.F.plainAttrs_list PySem.F.slot_list_count PySem.F.type_list_count mt_cntF (pv 3) (pa_cons pe_bl pa_nil)) pe_int (nomark _)) (pw_or1 (pt_not (pt_val (pe_callB (id := "isinstance") call_isErr (by rfl) T.n_isinstance (by decide +kernel) (pa_cons (pv 1) (pa_cons (pe_bltn (v := .ty "ValueError") (by rfl) T.n_ValueError (by decide +kernel) rfl) pa_nil)))))))) (pss_one (ps_ret pe_str)) pss_nil)
      (pss_one (ps_ret (pe_ix ix_list (pe_lst (pa_cons pe_str (pa_cons pe_str (pa_cons pe_str (pa_cons pe_str pa_nil))))) (pe_bm PySem.F.plainAttrs_list PySem.F.slot_list_index PySem.F.type_list_index mt_index (pv 3) (pa_cons pe_bl pa_nil)) (fun _ _ => rfl)))))))))), ?_⟩
  refine ⟨fun cls d H' => d = none ∧ ∃ wd, SaidW CB CN CT cls wd ∧ ∀ H'', Same H' H'' → Q (.str wd) H'', fun cls d σ' H' hw hl => ?_, rfl, hc, ?_⟩
  · obtain ⟨rfl, wd, hs, k⟩ := hw
    obtain ⟨D, b1, b2, b3, b4, j, rfl, O⟩ := word_ok T hs
    match σ', hl with
    | [v0, v1, v2, v3], _ =>
      refine ⟨true, O.s, fun _ => ⟨rfl, fun a ha => ?_⟩, fun z => by cases z⟩
      -- what was caught is asked
      refine ⟨_, rfl, rfl, _, rfl, ?_⟩
      refine iteFd (by intro z; cases z) ?_
      have hA : (upd H' a (ErrK (.ref D) a)) a = some (ErrK (.ref D) a) := upd_same
      have sA : Same H' (upd H' a (ErrK (.ref D) a)) := same_new ha
      generalize upd H' a (ErrK (.ref D) a) = H1 at *
      refine ⟨_, rfl, a, D, _, _, b1, rfl, hA, O.e, .own CB, O.k1, _, rfl, a, D, _, _, b2, rfl, hA, O.e, .own CN, O.k2, small (by show 2 ≤ 100000; decide), fun l1 hl1 => ?_⟩
      have s2 := same_new (o := .lst [V.bl b1, V.bl b2]) hl1
      refine ⟨_, rfl, _, rfl, a, D, _, _, b3, rfl, s2 _ _ hA, O.e, .own CT, O.k3, _, rfl, a, D, _, _, b4, rfl, s2 _ _ hA, O.e, .own CF, O.k4, small (by show 2 ≤ 100000; decide), fun l2 hl2 => ?_⟩
      have s3 := s2.trans (same_new (o := .lst [V.bl b3, V.bl b4]) hl2)
      refine ⟨l1, l2, _, _, rfl, rfl, (same_new hl2) _ _ upd_same, upd_same, small (by show 4 ≤ 100000; decide), fun l3 hl3 => ?_⟩
      have s4 := s3.trans (same_new (o := .lst ([V.bl b1, V.bl b2] ++ [V.bl b3, V.bl b4])) hl3)
      have hL3 : (upd (upd (upd H1 l1 (.lst [V.bl b1, V.bl b2])) l2 (.lst [V.bl b3, V.bl b4])) l3 (.lst ([V.bl b1, V.bl b2] ++ [V.bl b3, V.bl b4]))) l3 = some (.lst [V.bl b1, V.bl b2, V.bl b3, V.bl b4]) := upd_same
      have hk : Q (V.str wd) (upd (upd (upd H1 l1 (.lst [V.bl b1, V.bl b2])) l2 (.lst [V.bl b3, V.bl b4])) l3 (.lst ([V.bl b1, V.bl b2] ++ [V.bl b3, V.bl b4]))) := k _ (sA.trans s4)
      refine ⟨_, rfl, .inl ⟨rfl, _, SqL.of hL3⟩, l3, _, _, rfl, rfl, SqL.of hL3, rfl, rfl, ?_⟩
      rw [O.c]
      refine ⟨rfl, _, rfl, ?_⟩
      refine iteNS rfl ?_
      refine ⟨_, rfl, a, D, _, _, true, rfl, s4 _ _ hA, O.e, .ty "ValueError", O.kv, _, rfl, ?_⟩
      refine iteF ?_
      refine ⟨small (by show 4 ≤ 100000; decide), fun l4 hl4 => ?_⟩
      have hL4 := same_new (o := .lst [V.str "wide", V.str "thing", V.str "many", V.str "full"]) hl4 _ _ hL3
      refine ⟨_, rfl, .inl ⟨rfl, _, SqL.of hL4⟩, l3, _, _, j, _, rfl, rfl, SqL.of hL4, rfl, rfl, O.at_, rfl, O.no, ?_⟩
      refine ⟨l4, _, _, _, rfl, rfl, SqL.of upd_same, atI_nat O.wd, ?_⟩
      exact k _ ((sA.trans s4).trans (same_new hl4))
  · refine h _ fun v H' q => ?_
    refine ⟨_, rfl, rfl, _, rfl, ?_⟩
    refine iteTd rfl ?_
    exact q

/-! ### _law_said(lambda: ..) -/
abbrev qL (x : Str) : Str := x ++ ".<locals>." ++ "<lambda>"
abbrev tbs (P1 P2 P3 : Addr) : List (Addr × Str) := [(P1, qL "_law_numbers_refused"), (P2, qL "_law_things_refused"), (P3, qL "law")]
structure Apart3 (P1 P2 P3 : Addr) : Prop where
  a : P1 ≠ P2
  b : P1 ≠ P3
  c : P2 ≠ P3
section
variable {P1 P2 P3 : Addr}
theorem Apart3.m1 : (P1, qL "_law_numbers_refused") ∈ tbs P1 P2 P3 := List.mem_cons_self ..
theorem Apart3.m2 : (P2, qL "_law_things_refused") ∈ tbs P1 P2 P3 := List.mem_cons_of_mem _ (List.mem_cons_self ..)
theorem Apart3.m3 : (P3, qL "law") ∈ tbs P1 P2 P3 := List.mem_cons_of_mem _ (List.mem_cons_of_mem _ (List.mem_cons_self ..))
theorem Apart3.cases (p : Addr × Str) (h : p ∈ tbs P1 P2 P3) : p = (P1, qL "_law_numbers_refused") ∨ p = (P2, qL "_law_things_refused") ∨ p = (P3, qL "law") := by
  simp only [List.mem_cons, List.not_mem_nil, or_false] at h
  exact h
theorem Apart3.u1 (A : Apart3 P1 P2 P3) : ∀ p ∈ tbs P1 P2 P3, p.1 = P1 → p.2 = qL "_law_numbers_refused" := fun p hp e => by
  rcases Apart3.cases p hp with h | h | h
  · rw [h]
  · rw [h] at e; exact absurd e.symm A.a
  · rw [h] at e; exact absurd e.symm A.b
theorem Apart3.u2 (A : Apart3 P1 P2 P3) : ∀ p ∈ tbs P1 P2 P3, p.1 = P2 → p.2 = qL "_law_things_refused" := fun p hp e => by
  rcases Apart3.cases p hp with h | h | h
  · rw [h] at e; exact absurd e A.a
  · rw [h]
  · rw [h] at e; exact absurd e.symm A.c
theorem Apart3.u3 (A : Apart3 P1 P2 P3) : ∀ p ∈ tbs P1 P2 P3, p.1 = P3 → p.2 = qL "law" := fun p hp e => by
  rcases Apart3.cases p hp with h | h | h
  · rw [h] at e; exact absurd e A.b
  · rw [h] at e; exact absurd e A.c
  · rw [h]
theorem tabs_nil {H : Hp} (h1 : H P1 = some (.tbl #[])) (h2 : H P2 = some (.tbl #[])) (h3 : H P3 = some (.tbl #[])) : LamX.Tabs (tbs P1 P2 P3) H := fun p hp => by
  rcases Apart3.cases p hp with h | h | h
  · rw [h]; exact LamX.TabS.nil h1
  · rw [h]; exact LamX.TabS.nil h2
  · rw [h]; exact LamX.TabS.nil h3
end
theorem pe_said {X : Cx} {Tb : List (Addr × Str)} {c Pt : Addr} {k : Nat} {params : Arguments} {body : Expr} {scope : Scope} {t : XK → TE} {p lpos pos : Pos} (T : Txt K mg C CF CB CN CT CS c1 c2) (hKM : X.K = K ∧ X.mg = mg) (TB : LamX.TabB X.base X.mg c Pt) (hcode : X.env.code = .ref c)
    (hmT : (Pt, X.env.qual ++ "<lambda>") ∈ Tb) (hu : ∀ q ∈ Tb, q.1 = Pt → q.2 = X.env.qual ++ "<lambda>") (hr : Room (k + 2) X.A) (hL : LamX.lamSB X.env.scope scope = true) (hdef : defaultsOf params X.env = ([], []))
    (hbind : ∀ (q : Str) (cl : List (Str × Addr)) (pm cv ctv : Value), bindArgs (PySem.W.kla_fn "<lambda>" q params body scope cl pm cv ctv) ⟨[], []⟩ = pure [])
    (hbody : ∀ (A : Around) (outer : List Env) (s : Shared) (H : Hp) (E : XK) (f c' : Addr), Room k (A.deeper (LamX.lamEnv X scope s.heap.objs.size f c')) → PE (LamX.lamCx X A outer s H E scope f c') body (t E)) (hg : Gl X "_law_said" := by rfl) :
    PE X (.Call (.Name "_law_said" p) [.Lambda params body scope lpos] [] pos) (LamX.tLam Tb (TSaid CB CN CT) t) := by
  obtain ⟨hK, hM⟩ := hKM
  subst hK hM
  obtain ⟨g, fd, F, hm, b⟩ := T.d__law_said.ex
  obtain ⟨oc, od, kV, doc, pm, an, cdv, ct, osl, rfl, lk, hcd⟩ := F.ex
  exact LamX.pe_lamcall hg hm F.kp lk hcd b sc__law_said rfl (.inl (by rfl)) (said_gives T) TB hcode hmT hu hr (LamX.lamS_by hL) hdef hbind hbody
/-- a def whose own code object is known -/
theorem dfc_ok {x : Str} {st : Stmt} {f c : Addr} {oc : Value} {od an : Option Addr} {kV doc pm ct : Value} {osl : Array (Option Value)} {N ps : List Str} {k : Nat} {sp : Sp}
    (lk : K.lookup f = some ⟨oc, od, .func (PySem.W.fnOf x x (defArgs st) (defBody st) (defScope st) .none kV doc pm an (.ref c) ct), osl⟩) (hcd : PySem.W.codeIn K (.ref c) x = true) (S : FnScope N ps (defScope st)) (len : ∀ vs H Q E, sp vs H Q E → vs.length = ps.length)
    (hbody : ∀ (A : Around) (outer : List Env) (s : Shared) (H : Hp) (vs : List V) (Q : VK) (E : XK), Room k (A.deeper (PyProof.Rows.envOfC x (defScope st) s.heap.objs.size f (.ref c))) → sp vs H Q E →
      ∃ t, PSs (cxOf CX0 P w K mg base N x (defScope st) f (.ref c) A outer s H E).nox (defBody st) t ∧ t { nx := fun _ H' => Q .non H', rt := Q } (L2.start N vs) H) :
    FnOk P w K mg base CX0 (k + 1) f (PySem.W.fnOf x x (defArgs st) (defBody st) (defScope st) .none kV doc pm an (.ref c) ct) ps sp :=
  fn_of lk hcd S len fun A outer s H vs Q E hr h => let ⟨t, ht, q⟩ := hbody A outer s H vs Q E hr h; ⟨t, ht.nox, q⟩
/-! ### what stays, the tables left aside -/
theorem ext_same {H H' : Hp} (e : Same H H') : LamX.ExtN H H' := fun b o h _ => e b o h
theorem ext_trans {H H1 H2 : Hp} (a : LamX.ExtN H H1) (b : LamX.ExtN H1 H2) : LamX.ExtN H H2 := fun c o h n => b c o (a c o h n) n
theorem TyB.ext {H H' : Hp} {x : V} {t : String} (h : TyB K H x t) (e : LamX.ExtN H H') : TyB K H' x t := by
  cases h with
  | non => exact .non
  | bl b => exact .bl b
  | int i => exact .int i
  | str z => exact .str z
  | byt b => exact .byt b
  | @lst a xs h =>
    refine .lst (xs := xs) ?_
    rcases h with (h | ⟨o, h⟩) | h
    · exact .inl (.inl (e _ _ h (fun ps z => by cases z)))
    · exact .inl (.inr ⟨o, e _ _ h (fun ps z => by cases z)⟩)
    · exact .inr h
  | @tup a xs h =>
    refine .tup (xs := xs) ?_
    rcases h with (h | ⟨o, h⟩) | h
    · exact .inl (.inl (e _ _ h (fun ps z => by cases z)))
    · exact .inl (.inr ⟨o, e _ _ h (fun ps z => by cases z)⟩)
    · exact .inr h
  | dK h => exact .dK (e _ _ h (fun ps z => by cases z))
theorem BadN.ext {H H' : Hp} {x : V} {lo hi : Int} (h : BadN K H x lo hi) (e : LamX.ExtN H H') : BadN K H' x lo hi := by
  rcases h with ⟨t, h, n⟩ | h
  · exact .inl ⟨t, TyB.ext h e, n⟩
  · exact .inr h
theorem BadT.ext {H H' : Hp} {r : R} {x : V} (h : BadT K H r x) (e : LamX.ExtN H H') : BadT K H' r x := by
  rcases h with ⟨t, h, n⟩ | h
  · exact .inl ⟨t, TyB.ext h e, n⟩
  · exact .inr h
/-! ### odd ones -/
def Odd (K : PySem.W.Frag) (H : Hp) (x : V) : Prop := (∃ t, TyB K H x t ∧ t ≠ "int") ∨ ∃ v, x = .int v ∧ v < 0
theorem Odd.ext {H H' : Hp} {x : V} (h : Odd K H x) (e : LamX.ExtN H H') : Odd K H' x := by
  rcases h with ⟨t, h, n⟩ | h
  · exact .inl ⟨t, TyB.ext h e, n⟩
  · exact .inr h
theorem Odd.num {H : Hp} {x : V} {lo hi : Int} (h : Odd K H x) (h0 : 0 ≤ lo) : BadN K H x lo hi := by
  rcases h with h | ⟨v, e, hv⟩
  · exact .inl h
  · exact .inr ⟨v, e, .inl (by omega)⟩
theorem Odd.thing {H : Hp} {x : V} {r : R} (h : Odd K H x) (G : Good r) : BadT K H r x := by
  rcases h with h | ⟨v, e, hv⟩
  · exact .inl h
  · exact .inr ⟨v, e, fun hm => by have := (G.num v hm).1; omega⟩
def spOdd (K : PySem.W.Frag) : Sp := fun vs H Q _ => ∃ n : Int, vs = [.int n] ∧ 0 ≤ n ∧ n ≤ 400000000 ∧ ∀ H' x, Same H H' → Odd K H' x → Q x H'
theorem ok_odd (T : Txt K mg C CF CB CN CT CS c1 c2) : Cal P w K mg base 1 "_law_odd" (spOdd K) [] := by
  obtain ⟨f, fd, F, hm, b⟩ := T.d__law_odd.ex
  refine ⟨f, fd, _, _, F.ok sc__law_odd (fun vs H Q E h => ?_) (fun cdv A outer s H vs Q E hr h => ?_), hm, F.kp, b, .nil⟩
  · obtain ⟨_, rfl, _⟩ := h; rfl
  · obtain ⟨n, rfl, h0, h1, k⟩ := h
    refine ⟨_, (pss_one (ps_ret (pe_ix ix_list (pe_lst (pa_cons pe_non (pa_cons pe_bl (pa_cons pe_bl (pa_cons pe_str (pa_cons (pe_lst (pa_cons pe_int pa_nil)) (pa_cons (pe_tup (pa_cons pe_int pa_nil)) (pa_cons pe_dnewK (pa_cons (pe_op op_sub (pe_un un_neg pe_int) (pe_op op_mulW (pe_op op_mod (pe_op op_fdivW (pv 0) pe_int) pe_int) (pe_op op_pow pe_int pe_int))) pa_nil))))))))) (pe_op op_mod (pv 0) pe_int) (fun _ _ => rfl)))), ?_⟩
    have hb : (n / 8 % 3).natAbs < 2 ^ 10 := by omega
    refine ⟨small (by show 1 ≤ 100000; decide), fun a1 ha1 => ⟨small (by show 1 ≤ 100000; decide), fun a2 ha2 => fun a3 ha3 => ?_⟩⟩
    have s3 := ((same_new (o := .lst [V.int 5]) ha1).trans (same_new (o := .tup [V.int 5]) ha2)).trans (same_new (o := .dK []) ha3)
    have h1' := (same_new (o := .dK []) ha3) _ _ ((same_new (o := .tup [V.int 5]) ha2) _ _ (upd_same (H := H) (a := a1) (o := .lst [V.int 5])))
    have h2' := (same_new (o := .dK []) ha3) _ _ (upd_same (H := upd H a1 (.lst [V.int 5])) (a := a2) (o := .tup [V.int 5]))
    have h3' : (upd (upd (upd H a1 (.lst [V.int 5])) a2 (.tup [V.int 5])) a3 (.dK [])) a3 = some (.dK []) := upd_same
    refine ⟨_, rfl, _, rfl, _, _, rfl, rfl, ⟨by decide, by decide⟩, _, _, rfl, rfl, by (show (0 : Int) < _; first | decide | omega), _, _, rfl, rfl, ⟨by decide, by decide, by decide⟩, _, _, rfl, rfl, wide_mul hb (show ((10 : Int) ^ 20).natAbs < 2 ^ 70 by decide) (by decide) (by decide) (by decide), _, _, rfl, rfl, ?_⟩
    refine ⟨small (by show 8 ≤ 100000; decide), fun L hL => ?_⟩
    have sL := same_new (o := .lst [V.non, .bl true, .bl false, .str "5", .ref a1, .ref a2, .ref a3, .int (-1 - n / 8 % 3 * 10 ^ 20)]) hL
    refine ⟨_, rfl, _, _, rfl, rfl, by (show (0 : Int) < _; first | decide | omega), ?_⟩
    have hodd : ∃ x, Odd K (upd (upd (upd (upd H a1 (.lst [V.int 5])) a2 (.tup [V.int 5])) a3 (.dK [])) L (.lst [V.non, .bl true, .bl false, .str "5", .ref a1, .ref a2, .ref a3, .int (-1 - n / 8 % 3 * 10 ^ 20)])) x ∧ atI [V.non, .bl true, .bl false, .str "5", .ref a1, .ref a2, .ref a3, .int (-1 - n / 8 % 3 * 10 ^ 20)] (n % 8) = some x := by
      have h8 : n % 8 = 0 ∨ n % 8 = 1 ∨ n % 8 = 2 ∨ n % 8 = 3 ∨ n % 8 = 4 ∨ n % 8 = 5 ∨ n % 8 = 6 ∨ n % 8 = 7 := by omega
      rcases h8 with e | e | e | e | e | e | e | e <;> rw [e]
      · exact ⟨.non, .inl ⟨_, .non, by decide⟩, rfl⟩
      · exact ⟨.bl true, .inl ⟨_, .bl _, by decide⟩, rfl⟩
      · exact ⟨.bl false, .inl ⟨_, .bl _, by decide⟩, rfl⟩
      · exact ⟨.str "5", .inl ⟨_, .str _, by decide⟩, rfl⟩
      · exact ⟨.ref a1, .inl ⟨_, .lst (SqL.of (sL _ _ h1')), by decide⟩, rfl⟩
      · exact ⟨.ref a2, .inl ⟨_, .tup (SqT.of (sL _ _ h2')), by decide⟩, rfl⟩
      · exact ⟨.ref a3, .inl ⟨_, .dK (sL _ _ h3'), by decide⟩, rfl⟩
      · exact ⟨.int (-1 - n / 8 % 3 * 10 ^ 20), .inr ⟨_, rfl, by have : 0 ≤ n / 8 % 3 * (10 : Int) ^ 20 := Int.mul_nonneg (by omega) (by decide); omega⟩, rfl⟩
    obtain ⟨x, hx, hat⟩ := hodd
    exact ⟨L, _, _, x, rfl, rfl, SqL.of upd_same, hat, k _ x (s3.trans sL) hx⟩

/-! ### numbers beyond their bounds are refused -/
def spNums (Tb : List (Addr × Str)) : Sp := fun vs H Q _ => ∃ n : Int, vs = [.int n] ∧ 0 ≤ n ∧ n ≤ 400000000 ∧ LamX.Tabs Tb H ∧ ∀ H', LamX.ExtN H H' → LamX.Tabs Tb H' → Q (.bl true) H'
theorem big_bad {H : Hp} {lo hi v : Int} (h : hi < v) : BadN K H (.int v) lo hi := .inr ⟨v, rfl, .inr h⟩
theorem low_bad {H : Hp} {lo hi v : Int} (h : v < lo) : BadN K H (.int v) lo hi := .inr ⟨v, rfl, .inl h⟩
theorem wide_n {n : Int} (h0 : 0 ≤ n) (h1 : n ≤ 400000000) : 0 ≤ n * 10 ^ 20 := Int.mul_nonneg h0 (by decide)
theorem ok_nums (T : Txt K mg C CF CB CN CT CS c1 c2) {P1 P2 P3 : Addr} (A3 : Apart3 P1 P2 P3) (hTB : LamX.TabB base mg c1 P1) (G_Row : Mak P w K mg base 2 "Row" C (spInit C) []) (XG_Row : MakX P w K mg base (L2.CX P w) 2 "Row" C (spInitX K CB) [])
    (XG_is_too_full : CalX P w K mg base (L2.CX P w) 2 "is_too_full" (spTooX K CB) []) (XG_stretch_at : CalX P w K mg base (L2.CX P w) 2 "stretch_at" (spAtX K CB) []) (XG_spread : CalX P w K mg base (L2.CX P w) 2 "spread" (spSpreadX K CB) []) (G__law_odd : Cal P w K mg base 1 "_law_odd" (spOdd K) []) :
    Cal P w K mg base 6 "_law_numbers_refused" (spNums (tbs P1 P2 P3)) [] := by
  obtain ⟨f, oc, od, an, kV, doc, pm, ct, osl, lk, hcd, kp, hm, b⟩ := T.d__law_numbers_refused.ex
  have hTm := Apart3.m1 (P1 := P1) (P2 := P2) (P3 := P3)
  have hTu := A3.u1
  refine ⟨f, _, _, _, dfc_ok (k := 5) lk hcd sc__law_numbers_refused (fun vs H Q E h => ?_) (fun A outer s H vs Q E hr h => ?_), hm, kp, b, .nil⟩
  · obtain ⟨_, rfl, _⟩ := h; rfl
  · obtain ⟨n, rfl, h0, h1, hT, k⟩ := h
    refine ⟨_, (pss_cons (ps_set (i := 1) sc__law_numbers_refused.nd rfl (Or.inl rfl) (pe_c G__law_odd hr (by decide) rfl (pa_cons (pv 0) pa_nil)))
      (pss_cons (ps_for PassesOwn.never rfl (pi_tup (pe_tup (pa_cons (pv 1) (pa_cons pe_int (pa_cons pe_int (pa_cons (pe_op op_add pe_int (pe_op op_mulW (pv 0) (pe_op op_pow pe_int pe_int))) (pa_cons pe_int pa_nil))))))) (pg_name (i := 2) sc__law_numbers_refused.nd rfl (Or.inr rfl))
        (pss_one (ps_if (pt_cmpR op_ne (pe_said (k := 3) T ⟨rfl, rfl⟩ hTB rfl hTm hTu (hr.mono (by decide)) (by show LamX.lamSB (defScope s__law_numbers_refused) _ = true; decide +kernel) rfl (fun _ _ _ _ _ => rfl) (fun A outer s H E f c' hr2 => (pe_mkX XG_Row hr2 (by decide) (passes_call (takes_of rfl rfl rfl rfl) fun _ _ _ _ q => q) rfl (pa_cons (pv 2) pa_nil)))) pe_str (nomark _)) (pss_one (ps_ret pe_bl)) pss_nil)))
      (pss_cons (ps_for PassesOwn.never rfl (pi_tup (pe_tup (pa_cons (pv 1) (pa_cons pe_int (pa_cons (pe_op op_add pe_int (pe_op op_mulW (pv 0) (pe_op op_pow pe_int pe_int))) pa_nil))))) (pg_name (i := 3) sc__law_numbers_refused.nd rfl (Or.inr rfl))
        (pss_cons (ps_if (pt_cmpR op_ne (pe_said (k := 3) T ⟨rfl, rfl⟩ hTB rfl hTm hTu (hr.mono (by decide)) (by show LamX.lamSB (defScope s__law_numbers_refused) _ = true; decide +kernel) rfl (fun _ _ _ _ _ => rfl) (fun A outer s H E f c' hr2 => (pe_cX XG_is_too_full hr2 (by decide) (passes_call (takes_of rfl rfl rfl rfl) fun _ _ _ _ q => q) rfl (pa_cons (pv 3) (pa_cons pe_int pa_nil))))) pe_str (nomark _)) (pss_one (ps_ret pe_bl)) pss_nil)
      (pss_cons (ps_if (pt_cmpR op_ne (pe_said (k := 3) T ⟨rfl, rfl⟩ hTB rfl hTm hTu (hr.mono (by decide)) (by show LamX.lamSB (defScope s__law_numbers_refused) _ = true; decide +kernel) rfl (fun _ _ _ _ _ => rfl) (fun A outer s H E f c' hr2 => (pe_cX XG_stretch_at hr2 (by decide) (passes_call (takes_of rfl rfl rfl rfl) fun _ _ _ _ q => q) rfl (pa_cons (pv 3) (pa_cons pe_int pa_nil))))) pe_str (nomark _)) (pss_one (ps_ret pe_bl)) pss_nil)
      (pss_one (ps_if (pt_cmpR op_ne (pe_said (k := 3) T ⟨rfl, rfl⟩ hTB rfl hTm hTu (hr.mono (by decide)) (by show LamX.lamSB (defScope s__law_numbers_refused) _ = true; decide +kernel) rfl (fun _ _ _ _ _ => rfl) (fun A outer s H E f c' hr2 => (pe_cX XG_spread hr2 (by decide) (passes_call (takes_of rfl rfl rfl rfl) fun _ _ _ _ q => q) rfl (pa_cons (pv 3) (pa_cons pe_int (pa_cons pe_int pa_nil)))))) pe_str (nomark _)) (pss_one (ps_ret pe_bl)) pss_nil)))))
      (pss_cons (ps_for PassesOwn.never rfl (pi_tup (pe_tup (pa_cons (pv 1) (pa_cons (pe_op op_shl pe_int pe_int) (pa_cons (pe_op op_add (pe_op op_shl pe_int pe_int) (pe_op op_mulW (pv 0) (pe_op op_pow pe_int pe_int))) pa_nil))))) (pg_name (i := 4) sc__law_numbers_refused.nd rfl (Or.inr rfl))
        (pss_cons (ps_if (pt_cmpR op_ne (pe_said (k := 3) T ⟨rfl, rfl⟩ hTB rfl hTm hTu (hr.mono (by decide)) (by show LamX.lamSB (defScope s__law_numbers_refused) _ = true; decide +kernel) rfl (fun _ _ _ _ _ => rfl) (fun A outer s H E f c' hr2 => (pe_cX XG_stretch_at hr2 (by decide) (passes_call (takes_of rfl rfl rfl rfl) fun _ _ _ _ q => q) rfl (pa_cons pe_int (pa_cons (pv 4) pa_nil))))) pe_str (nomark _)) (pss_one (ps_ret pe_bl)) pss_nil)
      (pss_one (ps_if (pt_cmpR op_ne (pe_said (k := 3) T ⟨rfl, rfl⟩ hTB rfl hTm hTu (hr.mono (by decide)) (by show LamX.lamSB (defScope s__law_numbers_refused) _ = true; decide +kernel) rfl (fun _ _ _ _ _ => rfl) (fun A outer s H E f c' hr2 => (pe_cX XG_spread hr2 (by decide) (passes_call (takes_of rfl rfl rfl rfl) fun _ _ _ _ q => q) rfl (pa_cons pe_int (pa_cons (pv 4) (pa_cons pe_int pa_nil)))))) pe_str (nomark _)) (pss_one (ps_ret pe_bl)) pss_nil))))
      (pss_cons (ps_for PassesOwn.never rfl (pi_tup (pe_tup (pa_cons (pv 1) (pa_cons (pe_op op_add (pe_op op_add (pe_op op_shl pe_int pe_int) pe_int) (pv 0)) pa_nil)))) (pg_name (i := 5) sc__law_numbers_refused.nd rfl (Or.inr rfl))
        (pss_cons (ps_if (pt_cmpR op_ne (pe_said (k := 3) T ⟨rfl, rfl⟩ hTB rfl hTm hTu (hr.mono (by decide)) (by show LamX.lamSB (defScope s__law_numbers_refused) _ = true; decide +kernel) rfl (fun _ _ _ _ _ => rfl) (fun A outer s H E f c' hr2 => (pe_cX XG_is_too_full hr2 (by decide) (passes_call (takes_of rfl rfl rfl rfl) fun _ _ _ _ q => q) rfl (pa_cons pe_int (pa_cons (pv 5) pa_nil))))) pe_str (nomark _)) (pss_one (ps_ret pe_bl)) pss_nil)
      (pss_one (ps_if (pt_cmpR op_ne (pe_said (k := 3) T ⟨rfl, rfl⟩ hTB rfl hTm hTu (hr.mono (by decide)) (by show LamX.lamSB (defScope s__law_numbers_refused) _ = true; decide +kernel) rfl (fun _ _ _ _ _ => rfl) (fun A outer s H E f c' hr2 => (pe_cX XG_spread hr2 (by decide) (passes_call (takes_of rfl rfl rfl rfl) fun _ _ _ _ q => q) rfl (pa_cons pe_int (pa_cons pe_int (pa_cons (pv 5) pa_nil)))))) pe_str (nomark _)) (pss_one (ps_ret pe_bl)) pss_nil))))
      (pss_cons (ps_if (pt_cmpR op_ne (pe_said (k := 3) T ⟨rfl, rfl⟩ hTB rfl hTm hTu (hr.mono (by decide)) (by show LamX.lamSB (defScope s__law_numbers_refused) _ = true; decide +kernel) rfl (fun _ _ _ _ _ => rfl) (fun A outer s H E f c' hr2 => (pe_cX XG_spread hr2 (by decide) (passes_call (takes_of rfl rfl rfl rfl) fun _ _ _ _ q => q) rfl (pa_cons pe_int (pa_cons pe_int (pa_cons pe_int pa_nil)))))) pe_str (nomark _)) (pss_one (ps_ret pe_bl)) pss_nil)
      (pss_cons (ps_if (pt_cmpR op_ne (pe_said (k := 3) T ⟨rfl, rfl⟩ hTB rfl hTm hTu (hr.mono (by decide)) (by show LamX.lamSB (defScope s__law_numbers_refused) _ = true; decide +kernel) rfl (fun _ _ _ _ _ => rfl) (fun A outer s H E f c' hr2 => (pe_cX XG_spread hr2 (by decide) (passes_call (takes_of rfl rfl rfl rfl) fun _ _ _ _ q => q) rfl (pa_cons pe_int (pa_cons pe_int (pa_cons (pe_op op_add pe_int (pe_op op_mod (pv 0) (pe_op op_pow pe_int pe_int))) pa_nil)))))) pe_str (nomark _)) (pss_one (ps_ret pe_bl)) pss_nil)
      (pss_one (ps_ret (pe_cmpR op_eq (pe_said (k := 3) T ⟨rfl, rfl⟩ hTB rfl hTm hTu (hr.mono (by decide)) (by show LamX.lamSB (defScope s__law_numbers_refused) _ = true; decide +kernel) rfl (fun _ _ _ _ _ => rfl) (fun A outer s H E f c' hr2 => (pe_mk G_Row hr2 (by decide) rfl (pa_cons pe_int pa_nil)))) pe_str (nomark _))))))))))), ?_⟩
    have hw := wide_n h0 h1
    have hb : n.natAbs < 2 ^ 30 := by omega
    -- an odd one
    refine ⟨_, rfl, n, rfl, h0, h1, fun H1 x s1 hx => ?_⟩
    -- widths
    refine ⟨_, rfl, _, rfl, _, _, rfl, rfl, ⟨by decide, by decide, by decide⟩, _, _, rfl, rfl, wide_mul hb (show ((10 : Int) ^ 20).natAbs < 2 ^ 70 by decide) (by decide) (by decide) (by decide), _, _, rfl, rfl, small (by show 5 ≤ 100000; decide), fun t2 ht2 => ?_⟩
    refine ⟨t2, rfl, ⟨_, SqT.of upd_same⟩, ?_⟩
    generalize hH2 : upd H1 t2 _ = H2
    have sH2 : Same H1 H2 := by rw [← hH2]; exact same_new ht2
    have e2 := (ext_same s1).trans (ext_same sH2)
    have T2 := (hT.ext s1).ext sH2
    have x2 := hx.ext (ext_same sH2)
    have ht2' : H2 t2 = some (.tup [x, .int 3, .int 61, .int (61 + n * 10 ^ 20), .int 0]) := by rw [← hH2]; exact upd_same
    have bad2 : ∀ y ∈ [x, .int 3, .int 61, .int (61 + n * 10 ^ 20), .int 0], BadN K H2 y 4 60 := fun y hy => by
      simp only [List.mem_cons, List.not_mem_nil, or_false] at hy
      rcases hy with e | e | e | e | e <;> rw [e]
      · exact x2.num (by decide)
      · exact low_bad (by decide)
      · exact big_bad (by decide)
      · exact big_bad (by omega)
      · exact low_bad (by decide)
    refine for_tup (K := K) (a := t2) (xs := [x, .int 3, .int 61, .int (61 + n * 10 ^ 20), .int 0]) (fun i σ H' => LamX.ExtN H2 H' ∧ LamX.Tabs (tbs P1 P2 P3) H' ∧ ∃ z2, σ = [some (.int n), some x, z2, none, none, none])
      ⟨LamX.ExtN.refl _, T2, none, rfl⟩ (fun i σ H' _ q => SqT.of (q.1 _ _ ht2' (fun _ z => by cases z))) ?_ ?_
    · rintro i y σ H3 hy ⟨e3, T3, z2, rfl⟩
      have hb3 := (bad2 y (List.mem_of_getElem? hy)).ext e3
      refine ⟨T3, fun H4 e4 T4 R hR => ⟨_, rfl, ?_⟩⟩
      intro p dx hp hdx hne
      have s5 : Same H4 (upd (upd H4 dx (.own p)) p (.ins C dx [])) := fun b u e => by
        rw [upd_ne (ne_of_none e hp), upd_ne (ne_of_none e hdx)]
        exact e
      refine ⟨p, y, rfl, (hb3.ext e4).ext (ext_same s5), rfl, _, .inl ⟨rfl, rfl⟩, fun H6 s6 => ⟨rfl, _, rfl, ?_⟩⟩
      refine iteNS rfl ?_
      exact ⟨((e3.trans e4).trans (ext_same s5)).trans (ext_same s6), (T4.ext s5).ext s6, _, rfl⟩
    rintro σ H3 ⟨e3, T3, z2, rfl⟩
    have x3 := x2.ext e3
    have e03 := e2.trans e3
    -- levels
    refine ⟨_, rfl, _, rfl, _, _, rfl, rfl, ⟨by decide, by decide, by decide⟩, _, _, rfl, rfl, wide_mul hb (show ((10 : Int) ^ 20).natAbs < 2 ^ 70 by decide) (by decide) (by decide) (by decide), _, _, rfl, rfl, small (by show 3 ≤ 100000; decide), fun t4 ht4 => ?_⟩
    refine ⟨t4, rfl, ⟨_, SqT.of upd_same⟩, ?_⟩
    generalize hH4 : upd H3 t4 _ = H4
    have sH4 : Same H3 H4 := by rw [← hH4]; exact same_new ht4
    have e04 := e03.trans (ext_same sH4)
    have T4 := T3.ext sH4
    have x4 := x3.ext (ext_same sH4)
    have ht4' : H4 t4 = some (.tup [x, .int 61, .int (61 + n * 10 ^ 20)]) := by rw [← hH4]; exact upd_same
    have bad4 : ∀ y ∈ [x, .int 61, .int (61 + n * 10 ^ 20)], BadN K H4 y 0 60 := fun y hy => by
      simp only [List.mem_cons, List.not_mem_nil, or_false] at hy
      rcases hy with e | e | e <;> rw [e]
      · exact x4.num (by decide)
      · exact big_bad (by decide)
      · exact big_bad (by omega)
    refine for_tup (K := K) (a := t4) (xs := [x, .int 61, .int (61 + n * 10 ^ 20)]) (fun i σ H' => LamX.ExtN H4 H' ∧ LamX.Tabs (tbs P1 P2 P3) H' ∧ ∃ z3, σ = [some (.int n), some x, z2, z3, none, none])
      ⟨LamX.ExtN.refl _, T4, none, rfl⟩ (fun i σ H' _ q => SqT.of (q.1 _ _ ht4' (fun _ z => by cases z))) ?_ ?_
    · rintro i y σ H5 hy ⟨e5, T5, z3, rfl⟩
      have hb5 := (bad4 y (List.mem_of_getElem? hy)).ext e5
      refine ⟨T5, fun H6 e6 T6 R hR => ⟨_, rfl, y, _, rfl, .inl (hb5.ext e6), rfl, _, .inl ⟨rfl, rfl⟩, fun H7 s7 => ⟨rfl, _, rfl, iteNS rfl ?_⟩⟩⟩
      have e7 := (e5.trans e6).trans (ext_same s7)
      refine ⟨T6.ext s7, fun H8 e8 T8 R hR => ⟨_, rfl, y, _, rfl, .inl ((hb5.ext (e6.trans (ext_same s7))).ext e8), rfl, _, .inl ⟨rfl, rfl⟩, fun H9 s9 => ⟨rfl, _, rfl, iteNS rfl ?_⟩⟩⟩
      have e9 := (e7.trans e8).trans (ext_same s9)
      refine ⟨T8.ext s9, fun H10 e10 T10 R hR => ⟨_, rfl, y, _, _, rfl, .inl ((bad4 y (List.mem_of_getElem? hy)).ext (e9.trans e10)), rfl, _, .inl ⟨rfl, rfl⟩, fun H11 s11 => ⟨rfl, _, rfl, iteNS rfl ?_⟩⟩⟩
      exact ⟨(e9.trans e10).trans (ext_same s11), T10.ext s11, _, rfl⟩
    rintro σ H5 ⟨e5, T5, z3, rfl⟩
    have x5 := x4.ext e5
    have e05 := e04.trans e5
    -- marks
    refine ⟨_, rfl, _, _, rfl, rfl, ⟨by decide, by decide, by decide⟩, _, _, rfl, rfl, ⟨by decide, by decide, by decide⟩, _, rfl, _, _, rfl, rfl, ⟨by decide, by decide, by decide⟩, _, _, rfl, rfl, wide_mul hb (show ((10 : Int) ^ 20).natAbs < 2 ^ 70 by decide) (by decide) (by decide) (by decide), _, _, rfl, rfl, small (by show 3 ≤ 100000; decide), fun t6 ht6 => ?_⟩
    refine ⟨t6, rfl, ⟨_, SqT.of upd_same⟩, ?_⟩
    generalize hH6 : upd H5 t6 _ = H6
    have sH6 : Same H5 H6 := by rw [← hH6]; exact same_new ht6
    have e06 := e05.trans (ext_same sH6)
    have T6 := T5.ext sH6
    have x6 := x5.ext (ext_same sH6)
    have ht6' : H6 t6 = some (.tup [x, .int (2 ^ 60), .int (2 ^ 60 + n * 10 ^ 20)]) := by rw [← hH6]; exact upd_same
    have bad6 : ∀ y ∈ [x, .int (2 ^ 60), .int (2 ^ 60 + n * 10 ^ 20)], BadN K H6 y 0 (2 ^ 60 - 1) := fun y hy => by
      simp only [List.mem_cons, List.not_mem_nil, or_false] at hy
      rcases hy with e | e | e <;> rw [e]
      · exact x6.num (by decide)
      · exact big_bad (by decide)
      · exact big_bad (by omega)
    refine for_tup (K := K) (a := t6) (xs := [x, .int (2 ^ 60), .int (2 ^ 60 + n * 10 ^ 20)]) (fun i σ H' => LamX.ExtN H6 H' ∧ LamX.Tabs (tbs P1 P2 P3) H' ∧ ∃ z4, σ = [some (.int n), some x, z2, z3, z4, none])
      ⟨LamX.ExtN.refl _, T6, none, rfl⟩ (fun i σ H' _ q => SqT.of (q.1 _ _ ht6' (fun _ z => by cases z))) ?_ ?_
    · rintro i y σ H7 hy ⟨e7, T7, z4, rfl⟩
      have hb7 := (bad6 y (List.mem_of_getElem? hy)).ext e7
      refine ⟨T7, fun H8 e8 T8 R hR => ⟨_, rfl, _, y, rfl, .inr ⟨⟨5, rfl, by decide, by decide⟩, hb7.ext e8⟩, rfl, _, .inl ⟨rfl, rfl⟩, fun H9 s9 => ⟨rfl, _, rfl, iteNS rfl ?_⟩⟩⟩
      have e9 := (e7.trans e8).trans (ext_same s9)
      refine ⟨T8.ext s9, fun H10 e10 T10 R hR => ⟨_, rfl, _, y, _, rfl, .inr (.inl ⟨⟨5, rfl, by decide, by decide⟩, (bad6 y (List.mem_of_getElem? hy)).ext (e9.trans e10)⟩), rfl, _, .inl ⟨rfl, rfl⟩, fun H11 s11 => ⟨rfl, _, rfl, iteNS rfl ?_⟩⟩⟩
      exact ⟨(e9.trans e10).trans (ext_same s11), T10.ext s11, _, rfl⟩
    rintro σ H7 ⟨e7, T7, z4, rfl⟩
    have x7 := x6.ext e7
    have e07 := e06.trans e7
    -- counts
    refine ⟨_, rfl, _, _, rfl, rfl, ⟨by decide, by decide, by decide⟩, _, _, rfl, rfl, _, rfl, _, _, rfl, rfl, small (by show 2 ≤ 100000; decide), fun t8 ht8 => ?_⟩
    refine ⟨t8, rfl, ⟨_, SqT.of upd_same⟩, ?_⟩
    generalize hH8 : upd H7 t8 _ = H8
    have sH8 : Same H7 H8 := by rw [← hH8]; exact same_new ht8
    have e08 := e07.trans (ext_same sH8)
    have T8 := T7.ext sH8
    have x8 := x7.ext (ext_same sH8)
    have ht8' : H8 t8 = some (.tup [x, .int (2 ^ 60 + 1 + n)]) := by rw [← hH8]; exact upd_same
    have bad8 : ∀ y ∈ [x, .int (2 ^ 60 + 1 + n)], BadN K H8 y 0 (2 ^ 60) ∧ BadN K H8 y 0 1024 := fun y hy => by
      simp only [List.mem_cons, List.not_mem_nil, or_false] at hy
      rcases hy with e | e <;> rw [e]
      · exact ⟨x8.num (by decide), x8.num (by decide)⟩
      · exact ⟨big_bad (by omega), big_bad (by omega)⟩
    refine for_tup (K := K) (a := t8) (xs := [x, .int (2 ^ 60 + 1 + n)]) (fun i σ H' => LamX.ExtN H8 H' ∧ LamX.Tabs (tbs P1 P2 P3) H' ∧ ∃ z5, σ = [some (.int n), some x, z2, z3, z4, z5])
      ⟨LamX.ExtN.refl _, T8, none, rfl⟩ (fun i σ H' _ q => SqT.of (q.1 _ _ ht8' (fun _ z => by cases z))) ?_ ?_
    · rintro i y σ H9 hy ⟨e9, T9, z5, rfl⟩
      obtain ⟨g1, g2⟩ := bad8 y (List.mem_of_getElem? hy)
      refine ⟨T9, fun H10 e10 T10 R hR => ⟨_, rfl, _, y, rfl, .inr ⟨⟨5, rfl, by decide, by decide⟩, g1.ext (e9.trans e10)⟩, rfl, _, .inl ⟨rfl, rfl⟩, fun H11 s11 => ⟨rfl, _, rfl, iteNS rfl ?_⟩⟩⟩
      have e11 := (e9.trans e10).trans (ext_same s11)
      refine ⟨T10.ext s11, fun H12 e12 T12 R hR => ⟨_, rfl, _, _, y, rfl, .inr (.inr ⟨⟨50, rfl, by decide, g2.ext (e11.trans e12)⟩, 0, rfl, by decide, by decide⟩), rfl, _, .inl ⟨rfl, rfl⟩, fun H13 s13 => ⟨rfl, _, rfl, iteNS rfl ?_⟩⟩⟩
      exact ⟨(e11.trans e12).trans (ext_same s13), T12.ext s13, _, rfl⟩
    rintro σ H9 ⟨e9, T9, z5, rfl⟩
    have e09 := e08.trans e9
    -- eight marks bear no nine
    refine ⟨T9, fun H10 e10 T10 R hR => ⟨_, _, _, rfl, .inr (.inr ⟨⟨3, rfl, by decide, big_bad (by decide)⟩, 0, rfl, by decide, by decide⟩), rfl, _, .inl ⟨rfl, rfl⟩, fun H11 s11 => ⟨rfl, _, rfl, iteNS rfl ?_⟩⟩⟩
    have e011 := (e09.trans e10).trans (ext_same s11)
    refine ⟨T10.ext s11, fun H12 e12 T12 R hR => ⟨_, rfl, _, _, rfl, rfl, ⟨by decide, by decide, by decide⟩, _, _, rfl, rfl, by (show (0 : Int) < _; first | decide | omega), _, _, rfl, rfl, _, _, _, rfl, .inr (.inr ⟨⟨50, rfl, by decide, big_bad ?_⟩, 0, rfl, by decide, by decide⟩), rfl, _, .inl ⟨rfl, rfl⟩, fun H13 s13 => ⟨rfl, _, rfl, iteNS rfl ?_⟩⟩⟩
    · show (if (1024 : Int) < 2 ^ 50 then (1024 : Int) else 2 ^ 50) < 1025 + n % 10 ^ 9
      rw [if_pos (by decide)]
      have : 0 ≤ n % 10 ^ 9 := Int.emod_nonneg _ (by decide)
      omega
    have e013 := (e011.trans e12).trans (ext_same s13)
    -- four are enough
    refine ⟨T12.ext s13, fun H14 e14 T14 R hR => ?_⟩
    intro p dx hp hdx hne
    refine ⟨p, dx, 4, _, rfl, rfl, upd_same, by decide, by decide, fun H15 l d k15 hl hd W15 => ⟨rfl, ?_⟩⟩
    obtain ⟨s15, _, _⟩ := made hp hdx k15 hl hd
    refine hR _ _ ⟨rfl, ?_⟩
    exact k _ ((e013.trans e14).trans (ext_same s15)) (T14.ext s15)

/-! ### things that are none are refused -/
theorem RowAt.ext {H H' : Hp} {p l d : Addr} {r : R} (S : RowAt C H p l d r) (e : LamX.ExtN H H') : RowAt C H' p l d r :=
  ⟨let ⟨dx, h⟩ := S.ob; ⟨dx, e _ _ h (fun _ z => by cases z)⟩, e _ _ S.li (fun _ z => by cases z), let ⟨kvs, h, q⟩ := S.di; ⟨kvs, e _ _ h (fun _ z => by cases z), q⟩⟩
def TwoBad (K : PySem.W.Frag) (H : Hp) (r : R) (u v : V) : Prop := BadT K H r u ∨ ((∃ n, u = .int n ∧ n ∈ r.ord) ∧ BadT K H r v)
theorem TwoBad.ext {H H' : Hp} {r : R} {u v : V} (h : TwoBad K H r u v) (e : LamX.ExtN H H') : TwoBad K H' r u v := by
  rcases h with h | ⟨h1, h2⟩
  · exact .inl (h.ext e)
  · exact .inr ⟨h1, h2.ext e⟩
def spThingsR (K : PySem.W.Frag) (C : Addr) (Tb : List (Addr × Str)) : Sp := fun vs H Q _ => ∃ (p l d la : Addr) (r : R) (x : V), vs = [.ref p, .ref la, x] ∧ RowAt C H p l d r ∧ H la = some (.lst (r.ord.map V.int)) ∧ r.ord.length ≤ 1000 ∧ BadT K H r x ∧ LamX.Tabs Tb H ∧ ∀ H', LamX.ExtN H H' → LamX.Tabs Tb H' → Q (.bl true) H'
theorem ok_thingsr (T : Txt K mg C CF CB CN CT CS c1 c2) {P1 P2 P3 : Addr} (A3 : Apart3 P1 P2 P3) (hTB : LamX.TabB base mg c2 P2) (XM_put : MetX P w K mg base (L2.CX P w) 3 C "put" (spPutX K C CN CT) [])
    (XM_take : MetX P w K mg base (L2.CX P w) 2 C "take" (spOneX K C CN) []) (XM_mark : MetX P w K mg base (L2.CX P w) 2 C "mark" (spOneX K C CN) []) (XM_is_ahead : MetX P w K mg base (L2.CX P w) 2 C "is_ahead" (spTwoX K C CN) []) :
    Cal P w K mg base 6 "_law_things_refused" (spThingsR K C (tbs P1 P2 P3)) [] := by
  obtain ⟨f, oc, od, an, kV, doc, pm, ct, osl, lk, hcd, kp, hm, b⟩ := T.d__law_things_refused.ex
  have hTm := Apart3.m2 (P1 := P1) (P2 := P2) (P3 := P3)
  have hTu := A3.u2
  refine ⟨f, _, _, _, dfc_ok (k := 5) lk hcd sc__law_things_refused (fun vs H Q E h => ?_) (fun A outer s H vs Q E hr h => ?_), hm, kp, b, .nil⟩
  · obtain ⟨_, _, _, _, _, _, rfl, _⟩ := h; rfl
  · obtain ⟨p, l, d, la, r, x, rfl, W, hL, hl, hx, hT, k⟩ := h
    refine ⟨_, (pss_cons (ps_set (i := 3) sc__law_things_refused.nd rfl (Or.inl rfl) (pe_ix ix_list (pe_op op_cat (pv 1) (pe_lst (pa_cons pe_int pa_nil))) pe_int (fun _ _ => rfl)))
      (pss_cut (ps_if (PW.pt (pw_and (pt_cmpR op_notN (pv 2) pe_non (nomark _)) (pw_and1 (pt_cmpR op_ne (pe_said (k := 3) T ⟨rfl, rfl⟩ hTB rfl hTm hTu (hr.mono (by decide)) (by show LamX.lamSB (defScope s__law_things_refused) _ = true; decide +kernel) rfl (fun _ _ _ _ _ => rfl) (fun A outer s H E f c' hr2 => (pe_mtX XM_put hr2 (by decide) (passes_call (takes_of rfl rfl rfl rfl) fun _ _ _ _ q => q) (pv 0) (pa_cons (pv 2) pa_nil)))) pe_str (nomark _))))) (pss_one (ps_ret pe_bl)) pss_nil)
      (pss_cons (ps_if (pt_cmpR op_ne (pe_said (k := 3) T ⟨rfl, rfl⟩ hTB rfl hTm hTu (hr.mono (by decide)) (by show LamX.lamSB (defScope s__law_things_refused) _ = true; decide +kernel) rfl (fun _ _ _ _ _ => rfl) (fun A outer s H E f c' hr2 => (pe_mtX XM_take hr2 (by decide) (passes_call (takes_of rfl rfl rfl rfl) fun _ _ _ _ q => q) (pv 0) (pa_cons (pv 2) pa_nil)))) pe_str (nomark _)) (pss_one (ps_ret pe_bl)) pss_nil)
      (pss_cons (ps_if (pt_cmpR op_ne (pe_said (k := 3) T ⟨rfl, rfl⟩ hTB rfl hTm hTu (hr.mono (by decide)) (by show LamX.lamSB (defScope s__law_things_refused) _ = true; decide +kernel) rfl (fun _ _ _ _ _ => rfl) (fun A outer s H E f c' hr2 => (pe_mtX XM_mark hr2 (by decide) (passes_call (takes_of rfl rfl rfl rfl) fun _ _ _ _ q => q) (pv 0) (pa_cons (pv 2) pa_nil)))) pe_str (nomark _)) (pss_one (ps_ret pe_bl)) pss_nil)
      (pss_cons (ps_for PassesOwn.never rfl (pi_tup (pe_tup (pa_cons (pe_tup (pa_cons (pv 2) (pa_cons (pv 3) pa_nil))) (pa_cons (pe_tup (pa_cons (pv 3) (pa_cons (pv 2) pa_nil))) (pa_cons (pe_tup (pa_cons (pv 2) (pa_cons (pv 2) pa_nil))) pa_nil))))) (pg_tup rfl (pgs_cons (pg_name (i := 4) sc__law_things_refused.nd rfl (Or.inr rfl)) (pgs_cons (pg_name (i := 5) sc__law_things_refused.nd rfl (Or.inr rfl)) pgs_nil)))
        (pss_one (ps_if (pt_cmpR op_ne (pe_said (k := 3) T ⟨rfl, rfl⟩ hTB rfl hTm hTu (hr.mono (by decide)) (by show LamX.lamSB (defScope s__law_things_refused) _ = true; decide +kernel) rfl (fun _ _ _ _ _ => rfl) (fun A outer s H E f c' hr2 => (pe_mtX XM_is_ahead hr2 (by decide) (passes_call (takes_of rfl rfl rfl rfl) fun _ _ _ _ q => q) (pv 0) (pa_cons (pv 4) (pa_cons (pv 5) pa_nil))))) pe_str (nomark _)) (pss_one (ps_ret pe_bl)) pss_nil)))
      (pss_one (ps_ret pe_bl))))))), ?_⟩
    -- one
    refine ⟨_, rfl, small (by show 1 ≤ 100000; decide), fun n1 hn1 => ?_⟩
    have s1 := same_new (o := .lst [V.int 0]) hn1
    refine ⟨la, n1, _, _, rfl, rfl, s1 _ _ hL, upd_same, small (by rw [List.length_map]; show r.ord.length + 1 ≤ _; omega), fun n2 hn2 => ?_⟩
    obtain ⟨o, ho, hat⟩ : ∃ o : Int, ((∃ n, V.int o = .int n ∧ n ∈ r.ord) ∨ ¬ o ∈ r.ord) ∧ (r.ord.map V.int ++ [V.int 0])[0]? = some (.int o) := by
      cases hr : r.ord with
      | nil => exact ⟨0, .inr (by simp), rfl⟩
      | cons x0 xs => exact ⟨x0, .inl ⟨x0, rfl, List.mem_cons_self ..⟩, rfl⟩
    refine ⟨n2, _, _, _, rfl, rfl, SqL.of upd_same, atI_nat (j := 0) hat, ?_⟩
    generalize hH2 : upd (upd H n1 _) n2 _ = H2
    have s2 : Same H H2 := by rw [← hH2]; exact s1.trans (same_new hn2)
    have e2 := ext_same s2
    have T2 := hT.ext s2
    have W2 := W.keep s2
    have x2 := hx.ext e2
    have hone : ∀ {H' : Hp}, ((∃ n, V.int o = .int n ∧ n ∈ r.ord) ∨ BadT K H' r (.int o)) := fun {H'} => by
      rcases ho with h | h
      · exact .inl h
      · exact .inr (.inr ⟨o, rfl, h⟩)
    obtain ⟨dx2, hob2⟩ := W2.ob
    -- put
    refine ⟨fun σ' H' => LamX.ExtN H2 H' ∧ LamX.Tabs (tbs P1 P2 P3) H' ∧ σ' = [some (.ref p), some (.ref la), some x, some (.int o), none, none], ?_, ?_⟩
    · refine ⟨_, rfl, rfl, _, rfl, ?_⟩
      by_cases hn : x = .non
      · refine iteNS hn ?_
        exact ⟨LamX.ExtN.refl _, T2, rfl⟩
      · refine iteNT hn ?_
        refine ⟨T2, fun H3 e3 T3 R hR => ?_⟩
        have W3 := W2.ext e3
        obtain ⟨dx3, hob3⟩ := W3.ob
        refine ⟨_, rfl, p, dx3, _, rfl, hob3, rfl, _, rfl, p, l, d, r, x, rfl, W3, .inl ⟨hn, x2.ext e3, rfl, _, .inr (.inl ⟨rfl, rfl⟩), fun H4 s4 => ⟨rfl, _, rfl, iteNS rfl ?_⟩⟩⟩
        exact ⟨e3.trans (ext_same s4), T3.ext s4, rfl⟩
    rintro σ H4 ⟨e4, T4, rfl⟩
    -- take
    refine ⟨T4, fun H5 e5 T5 R hR => ?_⟩
    have e05 := e4.trans e5
    have W5 := W2.ext e05
    obtain ⟨dx5, hob5⟩ := W5.ob
    refine ⟨_, rfl, p, dx5, _, rfl, hob5, rfl, _, rfl, p, l, d, r, x, rfl, W5, x2.ext e05, rfl, _, .inr (.inl ⟨rfl, rfl⟩), fun H6 s6 => ⟨rfl, _, rfl, iteNS rfl ?_⟩⟩
    have e06 := e05.trans (ext_same s6)
    -- mark
    refine ⟨T5.ext s6, fun H7 e7 T7 R hR => ?_⟩
    have e07 := e06.trans e7
    have W7 := W2.ext e07
    obtain ⟨dx7, hob7⟩ := W7.ob
    refine ⟨_, rfl, p, dx7, _, rfl, hob7, rfl, _, rfl, p, l, d, r, x, rfl, W7, x2.ext e07, rfl, _, .inr (.inl ⟨rfl, rfl⟩), fun H8 s8 => ⟨rfl, _, rfl, iteNS rfl ?_⟩⟩
    have e08 := e07.trans (ext_same s8)
    have T8 := T7.ext s8
    -- the pairs
    refine ⟨_, rfl, _, rfl, small (by show 2 ≤ 100000; decide), fun ta hta => ⟨_, rfl, _, rfl, small (by show 2 ≤ 100000; decide), fun tb htb => ⟨_, rfl, _, rfl, small (by show 2 ≤ 100000; decide), fun tc htc => ⟨small (by show 3 ≤ 100000; decide), fun td htd => ?_⟩⟩⟩⟩
    refine ⟨td, rfl, ⟨_, SqT.of upd_same⟩, ?_⟩
    generalize hH9 : upd (upd (upd (upd H8 ta _) tb _) tc _) td _ = H9
    have s9 : Same H8 H9 := by rw [← hH9]; exact (((same_new hta).trans (same_new htb)).trans (same_new htc)).trans (same_new htd)
    have hta' : H9 ta = some (.tup [x, .int o]) := by rw [← hH9]; exact (((same_new htb).trans (same_new htc)).trans (same_new htd)) _ _ upd_same
    have htb' : H9 tb = some (.tup [.int o, x]) := by rw [← hH9]; exact ((same_new htc).trans (same_new htd)) _ _ upd_same
    have htc' : H9 tc = some (.tup [x, x]) := by rw [← hH9]; exact (same_new htd) _ _ upd_same
    have htd' : H9 td = some (.tup [.ref ta, .ref tb, .ref tc]) := by rw [← hH9]; exact upd_same
    have e09 := e08.trans (ext_same s9)
    have T9 := T8.ext s9
    have x9 := x2.ext e09
    have pairs : ∀ y ∈ [V.ref ta, .ref tb, .ref tc], ∃ a u v, y = .ref a ∧ H9 a = some (.tup [u, v]) ∧ TwoBad K H9 r u v := fun y hy => by
      simp only [List.mem_cons, List.not_mem_nil, or_false] at hy
      rcases hy with e | e | e <;> rw [e]
      · exact ⟨ta, _, _, rfl, hta', .inl x9⟩
      · refine ⟨tb, _, _, rfl, htb', ?_⟩
        rcases hone (H' := H9) with h | h
        · exact .inr ⟨h, x9⟩
        · exact .inl h
      · exact ⟨tc, _, _, rfl, htc', .inl x9⟩
    refine for_tup (K := K) (a := td) (xs := [.ref ta, .ref tb, .ref tc]) (fun i σ H' => LamX.ExtN H9 H' ∧ LamX.Tabs (tbs P1 P2 P3) H' ∧ ∃ z4 z5, σ = [some (.ref p), some (.ref la), some x, some (.int o), z4, z5])
      ⟨LamX.ExtN.refl _, T9, none, none, rfl⟩ (fun i σ H' _ q => SqT.of (q.1 _ _ htd' (fun _ z => by cases z))) ?_ ?_
    · rintro i y σ H10 hy ⟨e10, T10, z4, z5, rfl⟩
      obtain ⟨a, u, v, rfl, ha, hb⟩ := pairs y (List.mem_of_getElem? hy)
      refine ⟨a, _, rfl, SqT.of (e10 _ _ ha (fun _ z => by cases z)), rfl, _, _, rfl, _, _, rfl, rfl, ?_⟩
      refine ⟨T10, fun H11 e11 T11 R hR => ?_⟩
      have e011 := e10.trans e11
      have W11 := W2.ext (e09.trans e011)
      obtain ⟨dx11, hob11⟩ := W11.ob
      refine ⟨_, rfl, p, dx11, _, rfl, hob11, rfl, _, rfl, _, rfl, p, l, d, r, u, v, rfl, W11, hb.ext e011, rfl, _, .inr (.inl ⟨rfl, rfl⟩), fun H12 s12 => ⟨rfl, _, rfl, iteNS rfl ?_⟩⟩
      exact ⟨e011.trans (ext_same s12), T11.ext s12, _, _, rfl⟩
    · rintro σ H10 ⟨e10, T10, z4, z5, rfl⟩
      exact k _ (e2.trans (e09.trans e10)) T10

theorem canAll {l : List PyData} (h : ∀ d ∈ l, d.canLay0 = true) : PyData.canLayAll0 l = true := by
  induction l with
  | nil => simp [PyData.canLayAll0]
  | cons a r ih => simp [PyData.canLayAll0, h a (List.mem_cons_self ..), ih fun d hd => h d (List.mem_cons_of_mem _ hd)]
theorem depthAll_le {l : List PyData} {n : Nat} (h : ∀ d ∈ l, d.depth ≤ n) : PyData.depthAll l ≤ n := by
  induction l with
  | nil => simp [PyData.depthAll]
  | cons a r ih =>
    have h1 := h a (List.mem_cons_self ..)
    have h2 := ih fun d hd => h d (List.mem_cons_of_mem _ hd)
    simp only [PyData.depthAll]
    omega
theorem dpAll_of {K : PySem.W.Frag} {H : Hp} {α : Type} : ∀ {xs : List V} {ys : List α} {g : α → PyData}, xs.length = ys.length → (∀ (i : Nat) (v : V) (y : α), xs[i]? = some v → ys[i]? = some y → Dp K H v (g y)) → DpAll K H xs (ys.map g)
  | [], [], _, _, _ => .nil
  | x :: xs, y :: ys, g, hl, h => .cons (h 0 x y rfl rfl) (dpAll_of (Nat.succ.inj hl) fun i v z h1 h2 => h (i + 1) v z h1 h2)
  | [], _ :: _, _, hl, _ => by cases hl
  | _ :: _, [], _, hl, _ => by cases hl
theorem shaped_flat {ds : List PyData} (h2 : ∀ d ∈ ds, d.canLay0 = true) (h3 : ∀ d ∈ ds, d.depth ≤ 5) : SeqAt.shaped (.list ds) = true ∧ (PyData.list ds).canLay0 = true := by
  have e : (PyData.list ds).canLay0 = true := by simp only [PyData.canLay0]; exact canAll h2
  refine ⟨?_, e⟩
  unfold SeqAt.shaped
  rw [e, Bool.true_and, decide_eq_true_eq]
  have h : (PyData.list ds).depth = PyData.depthAll ds + 1 := by simp [PyData.depth]
  rw [h]
  have := depthAll_le (n := 5) h3
  omega

/-! ### a whole body run while the script is locked -/
section
variable {X : Cx}
def tLockS (d : Addr) (u : HO) (t : TS) : TS := fun D σ H => H d = some u ∧ Mut (some u) ∧ ∀ od, t ⟨fun σ' H' => H' d = some (.frz od u) ∧ D.nx σ' (upd H' d u), fun v H' => H' d = some (.frz od u) ∧ D.rt v (upd H' d u), fun σ' H' => H' d = some (.frz od u) ∧ D.bk σ' (upd H' d u), fun σ' H' => H' d = some (.frz od u) ∧ D.ct σ' (upd H' d u)⟩ σ (upd H d (.frz od u))
theorem pss_lockS {st : List Stmt} {d : Addr} {u : HO} {t : TS} (h : PSs X st t) : PSs X st (tLockS d u t) := by
  refine ⟨fun pins s σ H D I hw => ?_⟩
  obtain ⟨hd, mu, hw⟩ := hw
  obtain ⟨od, I1⟩ := I.lock hd mu
  refine thn (h.run pins s σ _ _ I1 (hw od)) fun f s1 q => ?_
  cases f with
  | next => obtain ⟨σ', H', I2, e, q⟩ := q; exact ⟨σ', _, I2.unlock e (I.nofrz hd mu), q⟩
  | brk => obtain ⟨σ', H', I2, e, q⟩ := q; exact ⟨σ', _, I2.unlock e (I.nofrz hd mu), q⟩
  | cont => obtain ⟨σ', H', I2, e, q⟩ := q; exact ⟨σ', _, I2.unlock e (I.nofrz hd mu), q⟩
  | ret v => obtain ⟨x, σ', H', I2, r, e, q⟩ := q; exact ⟨x, σ', _, I2.unlock e (I.nofrz hd mu), r, q⟩
end
/-! ### objects that stand, and the tables, and what was frozen at first -/
theorem Ob.nt {x : Ob} {o : HO} (h : x.ok o) : (∀ ps, o ≠ .tbl ps) ∧ ∀ c q, o ≠ LamX.CodeO c q := by
  cases x with
  | dk _ => cases h; exact ⟨fun _ => nofun, fun _ _ => nofun⟩
  | ls _ => cases h; exact ⟨fun _ => nofun, fun _ _ => nofun⟩
  | tu _ => cases h; exact ⟨fun _ => nofun, fun _ _ => nofun⟩
  | rp _ _ _ _ => obtain ⟨_, rfl⟩ := h; exact ⟨fun _ => nofun, fun _ _ => nofun⟩
  | dm _ _ _ => obtain ⟨_, rfl, _⟩ := h; exact ⟨fun _ => nofun, fun _ _ => nofun⟩
structure FT (K : PySem.W.Frag) (Tb : List (Addr × Str)) (H0 : Hp) (c : Addr) (ns : List Int) (H : Hp) (fs : List (Addr × Ob)) : Prop where
  f : Foot K c ns H fs
  t : LamX.Tabs Tb H
  z : ∀ o u, H0 c = some (.frz o u) → H c = some (.frz o u)
section
variable {K : PySem.W.Frag} {Tb : List (Addr × Str)} {H0 : Hp} {c : Addr} {ns : List Int} {H H' : Hp} {fs : List (Addr × Ob)}
theorem FT.ntab (F : FT K Tb H0 c ns H fs) {b : Addr} {u : HO} (h : H b = some u) (hu : (∃ ps, u = .tbl ps) ∨ ∃ c q, u = LamX.CodeO c q) {i : Nat} {a : Addr} {x : Ob} (hi : fs[i]? = some (a, x)) : b ≠ a := fun e => by
  obtain ⟨o, h1, h2⟩ := F.f.ok hi
  rw [← e, h] at h1
  cases h1
  obtain ⟨n1, n2⟩ := Ob.nt h2
  rcases hu with ⟨ps, z⟩ | ⟨d, q, z⟩
  · exact n1 ps z
  · exact n2 d q z
theorem FT.tabs (F : FT K Tb H0 c ns H fs) (e : ∀ b u, H b = some u → ((∃ ps, u = .tbl ps) ∨ ∃ c q, u = LamX.CodeO c q) → H' b = some u) : LamX.Tabs Tb H' := fun p hp => by
  obtain ⟨ps, h1, h2, h3⟩ := F.t p hp
  refine ⟨ps, e _ _ h1 (.inl ⟨_, rfl⟩), h2, fun pos cv hc => ?_⟩
  obtain ⟨d, e1, e2⟩ := h3 pos cv hc
  exact ⟨d, e1, e _ _ e2 (.inr ⟨_, _, rfl⟩)⟩
theorem FT.same (F : FT K Tb H0 c ns H fs) (e : Same H H') : FT K Tb H0 c ns H' fs := ⟨F.f.same e, F.t.ext e, fun o u h => e _ _ (F.z o u h)⟩
theorem FT.ext (F : FT K Tb H0 c ns H fs) (e : LamX.ExtN H H') (T : LamX.Tabs Tb H') : FT K Tb H0 c ns H' fs :=
  ⟨⟨F.f.nd, fun x hx => let ⟨o, h, q⟩ := F.f.at_ x hx; ⟨o, e _ _ h (Ob.nt q).1, q⟩, F.f.scr.keep fun o u h => e _ _ h (fun _ => nofun)⟩, T, fun o u h => e _ _ (F.z o u h) (fun _ => nofun)⟩
theorem FT.one (F : FT K Tb H0 c ns H fs) (y : Ob) {i : Nat} {a : Addr} {x : Ob} (hi : fs[i]? = some (a, x)) (e : ∀ b u, H b = some u → b ≠ a → H' b = some u) (hy : ∃ o, H' a = some o ∧ y.ok o) : FT K Tb H0 c ns H' (fs.set i (a, y)) :=
  ⟨F.f.one y hi e hy, F.tabs fun b u h hu => e b u h (F.ntab h hu hi), fun o u h => e _ _ (F.z o u h) (F.f.nfz hi (F.z o u h))⟩
theorem FT.uli (F : FT K Tb H0 c ns H fs) (i : Nat) {a : Addr} {x : Ob} (ys : List V) (hi : fs[i]? = some (a, x)) : FT K Tb H0 c ns (upd H a (.lst ys)) (fs.set i (a, .ls ys)) := F.one (.ls ys) hi (fun b u h hb => by rw [upd_ne hb]; exact h) ⟨_, upd_same, rfl⟩
theorem FT.udk (F : FT K Tb H0 c ns H fs) (i : Nat) {a : Addr} {x : Ob} (ys : List (Key × V)) (hi : fs[i]? = some (a, x)) : FT K Tb H0 c ns (upd H a (.dK ys)) (fs.set i (a, .dk ys)) := F.one (.dk ys) hi (fun b u h hb => by rw [upd_ne hb]; exact h) ⟨_, upd_same, rfl⟩
theorem FT.push (F : FT K Tb H0 c ns H fs) {a : Addr} (x : Ob) (e : Same H H') (ha : H a = none) (h : ∃ o, H' a = some o ∧ x.ok o) : FT K Tb H0 c ns H' (fs ++ [(a, x)]) := ⟨F.f.push x e ha h, F.t.ext e, fun o u h => e _ _ (F.z o u h)⟩
theorem FT.pli (F : FT K Tb H0 c ns H fs) {a : Addr} {ys : List V} (ha : H a = none) : FT K Tb H0 c ns (upd H a (.lst ys)) (fs ++ [(a, .ls ys)]) := F.push (.ls ys) (same_new ha) ha ⟨_, upd_same, rfl⟩
theorem FT.ptu (F : FT K Tb H0 c ns H fs) {a : Addr} {ys : List V} (ha : H a = none) : FT K Tb H0 c ns (upd H a (.tup ys)) (fs ++ [(a, .tu ys)]) := F.push (.tu ys) (same_new ha) ha ⟨_, upd_same, rfl⟩
theorem FT.top (F : FT K Tb H0 c ns H fs) (n : Nat) : FT K Tb H0 c ns H (fs.take n) := ⟨F.f.top n, F.t, F.z⟩
theorem FT.turn (F : FT K Tb H0 c ns H fs) (i j k : Nat) {p l l' d C : Addr} {r' : R} {x0 x1 x2 : Ob} (h0 : fs[i]? = some (p, x0)) (h1 : fs[j]? = some (l, x1)) (h2 : fs[k]? = some (d, x2)) (nij : i ≠ j) (nik : i ≠ k) (njk : j ≠ k)
    (e : ∀ b u, H b = some u → b ≠ p → b ≠ l → b ≠ d → H' b = some u) (hl : l' = l ∨ H l' = none) (W : RowAt C H' p l' d r') : FT K Tb H0 c ns H' (((fs.set i (p, .rp C l' d r')).set j (l', .ls (r'.ord.map V.int))).set k (d, .dm r'.given r'.ord r'.mrk)) :=
  ⟨F.f.turn i j k h0 h1 h2 nij nik njk e hl W, F.tabs fun b u h hu => e b u h (F.ntab h hu h0) (F.ntab h hu h1) (F.ntab h hu h2), fun o u h => e _ _ (F.z o u h) (F.f.nfz h0 (F.z o u h)) (F.f.nfz h1 (F.z o u h)) (F.f.nfz h2 (F.z o u h))⟩
theorem FT.addRow (F : FT K Tb H0 c ns H fs) {p l d C : Addr} {r : R} (s : Same H H') (hp : H p = none) (hl : H l = none) (hd : H d = none) (W : RowAt C H' p l d r) : FT K Tb H0 c ns H' (fs ++ [(p, .rp C l d r), (l, .ls (r.ord.map V.int)), (d, .dm r.given r.ord r.mrk)]) :=
  ⟨F.f.addRow s hp hl hd W, F.t.ext s, fun o u h => s _ _ (F.z o u h)⟩
end
/-- 0 if one is None else m["line"].index(one) + 1 -/
theorem if_placeM {K : PySem.W.Frag} {σ : L2.St} {H : Hp} {Q : VK} {i j : Nat} {o : Option Int} {xs : List Int} {ma la : Addr} {g : Int} (hi : σ[i]? = some (some (oneV o))) (hj : σ[j]? = some (some (.ref ma))) (hm : H ma = some (.dK (mD la g))) (hl : H la = some (.lst (xs.map V.int))) (ho : ∀ x, o = some x → x ∈ xs)
    (q : Q (.int ((placeO xs o : Nat) : Int)) H) :
    tIf (tTest (tOp (fun x y H Q => y = .non ∧ Q (.bl (decide (x = .non))) H) (tVar i) (tC .non))) (tC (.int 0)) (tOp (rI0 fun i j => .int (i + j)) (tBM K "list" (rIndex K) (tDGet (tVar j) (tC (.str "line"))) (tCons (tVar i) tNil)) (tC (.int 1))) σ H Q := by
  cases o with
  | none =>
    refine ⟨_, hi, rfl, _, rfl, ?_⟩
    exact iteT q
  | some x =>
    have hx := ho x rfl
    obtain ⟨i1, i2⟩ := idx_ok hx
    refine ⟨_, hi, rfl, _, rfl, ?_⟩
    refine iteFd (by intro z; cases z) ?_
    refine ⟨_, hj, ma, _, rfl, getLine hm, .inl ⟨rfl, _, SqL.of hl⟩, _, hi, la, _, _, _, _, rfl, rfl, SqL.of hl, rfl, flat_ints _, i1, beq_self_eq_true x, i2, _, _, rfl, rfl, ?_⟩
    exact q
/-! ### what was kept of the row: as deep data -/
theorem int_of {xs : List Int} {i : Nat} {x : V} (h : (xs.map V.int)[i]? = some x) : ∃ y, xs[i]? = some y ∧ x = V.int y := by
  rw [List.getElem?_map] at h
  cases e : xs[i]? with
  | none => rw [e] at h; cases h
  | some y => rw [e] at h; exact ⟨y, rfl, (Option.some.inj h).symm⟩
theorem seq_at {k n : Nat} (h : k < n) : seqIndex? (k : Int) n = some k := by
  unfold seqIndex?
  have e : (if (k : Int) < 0 then (k : Int) + (n : Int) else (k : Int)) = (k : Int) := if_neg (by omega)
  dsimp only
  rw [e]
  have h2 : (decide (0 ≤ (k : Int)) && decide ((k : Int) < (n : Int))) = true := by
    rw [decide_eq_true (by omega), decide_eq_true (by omega)]; rfl
  rw [if_pos h2, Int.toNat_natCast]
def keptD (r : R) : PyData := .list [.list (r.ord.map PyData.int), .list ((r.ord.map r.mrk).map PyData.int), .int r.purse]
theorem can_intsD (xs : List Int) : (PyData.list (xs.map PyData.int)).canLay0 = true := by
  simp only [PyData.canLay0]
  exact canAll fun d hd => by obtain ⟨i, _, rfl⟩ := List.mem_map.mp hd; simp [PyData.canLay0]
theorem depth_intsD (xs : List Int) : (PyData.list (xs.map PyData.int)).depth ≤ 2 := by
  have h : (PyData.list (xs.map PyData.int)).depth = PyData.depthAll (xs.map PyData.int) + 1 := by simp [PyData.depth]
  rw [h]
  have := depthAll_le (l := xs.map PyData.int) (n := 1) fun d hd => by obtain ⟨i, _, rfl⟩ := List.mem_map.mp hd; simp [PyData.depth]
  omega
theorem kept_ok (r : R) : SeqAt.shaped (keptD r) = true ∧ (keptD r).canLay0 = true := by
  refine shaped_flat (fun d hd => ?_) (fun d hd => ?_)
  · simp only [List.mem_cons, List.not_mem_nil, or_false] at hd
    rcases hd with e | e | e
    · rw [e]; exact can_intsD _
    · rw [e]; exact can_intsD _
    · rw [e]; simp [PyData.canLay0]
  · simp only [List.mem_cons, List.not_mem_nil, or_false] at hd
    rcases hd with e | e | e
    · rw [e]; have := depth_intsD r.ord; omega
    · rw [e]; have := depth_intsD (r.ord.map r.mrk); omega
    · rw [e]; simp [PyData.depth]
theorem kept_dp {K : PySem.W.Frag} {H : Hp} {r : R} {q D k : Addr} (h1 : H q = some (.lst (r.ord.map V.int))) (h2 : H D = some (.lst ((r.ord.map r.mrk).map V.int))) (h3 : H k = some (.lst [.ref q, .ref D, .int r.purse])) : Dp K H (.ref k) (keptD r) :=
  .lst (SqL.of h3) (.cons (.lst (SqL.of h1) (dp_ints _)) (.cons (.lst (SqL.of h2) (dp_ints _)) (.cons (.int _) .nil)))
theorem kept_eq (r : R) : PyData.eqv (keptD r) (keptD r) = true := SeqAt.eqv_refl _ (kept_ok r).2

/-! ### the law -/
theorem atI_lastI {xs : List Int} (h : 0 < xs.length) : atI (xs.map V.int) (-1) = some (.int (xs.getD (xs.length - 1) 0)) := by
  have e1 : xs.map V.int = (xs.take (xs.length - 1)).map V.int ++ [V.int (xs.getD (xs.length - 1) 0)] := by
    have e2 : xs = xs.take (xs.length - 1) ++ [xs.getD (xs.length - 1) 0] := by
      have e3 := List.take_add_one (l := xs) (i := xs.length - 1)
      rw [show xs.length - 1 + 1 = xs.length by omega, List.take_length, List.getElem?_eq_getElem (by omega)] at e3
      rw [List.getD_eq_getElem?_getD, List.getElem?_eq_getElem (by omega)]
      exact e3
    conv => lhs; rw [e2]
    rw [List.map_append]
    rfl
  rw [e1]
  exact atI_last _ _
theorem FT.start {K : PySem.W.Frag} {Tb : List (Addr × Str)} {H0 : Hp} {c : Addr} {ns : List Int} {a : Addr} {k : Nat} (ha : H0 a = none) (s : ScrF K H0 c ns) (T : LamX.Tabs Tb H0) : FT K Tb H0 c ns (upd H0 a (.dK (stD c k))) [(a, .dk (stD c k))] :=
  have e : Same H0 (upd H0 a (.dK (stD c k))) := same_new ha
  ⟨Foot.start upd_same (s.keep fun o u h => e _ _ h), T.ext e, fun o u h => e _ _ h⟩
def spLawT (K : PySem.W.Frag) (P1 P2 P3 : Addr) : Sp := fun vs H Q _ => ∃ (a : Addr) (ns : List Int), vs = [.ref a] ∧ SqL K H a (ns.map V.int) ∧ ns.length ≤ 63 ∧ H P1 = some (.tbl #[]) ∧ H P2 = some (.tbl #[]) ∧ H P3 = some (.tbl #[]) ∧ ∀ H', Q (.bl true) H'
theorem law_lock {X : Cx} {st : List Stmt} {σ : L2.St} {H : Hp} {D : Ends} {P1 P2 P3 a : Addr} {ns : List Int} (hS : SqL K H a (ns.map V.int)) (h1 : H P1 = some (.tbl #[])) (h2 : H P2 = some (.tbl #[])) (h3 : H P3 = some (.tbl #[])) (kD : ∀ H', D.rt (.bl true) H')
    (m : ∃ t, PSs X st t ∧ ∀ (D : Ends) (H0 : Hp), ScrF K H0 a ns → LamX.Tabs (tbs P1 P2 P3) H0 → (∀ H', (∀ o u, H0 a = some (.frz o u) → H' a = some (.frz o u)) → D.rt (.bl true) H') → t D σ H0) : ∃ t, PSs X st t ∧ t D σ H := by
  obtain ⟨t, ht, hm⟩ := m
  rcases hS with (hL | ⟨o, hL⟩) | hB
  · have n1 : P1 ≠ a := ne_of h1 hL (by intro z; cases z)
    have n2 : P2 ≠ a := ne_of h2 hL (by intro z; cases z)
    have n3 : P3 ≠ a := ne_of h3 hL (by intro z; cases z)
    refine ⟨_, pss_lockS (d := a) (u := .lst (ns.map V.int)) ht, hL, trivial, fun od => ?_⟩
    exact hm _ _ (.inl ⟨od, upd_same⟩) (tabs_nil (by rw [upd_ne n1]; exact h1) (by rw [upd_ne n2]; exact h2) (by rw [upd_ne n3]; exact h3)) fun H' hz => ⟨hz _ _ upd_same, kD _⟩
  · exact ⟨t, ht, hm _ _ (.inl ⟨o, hL⟩) (tabs_nil h1 h2 h3) fun H' _ => kD _⟩
  · exact ⟨t, ht, hm _ _ (.inr hB) (tabs_nil h1 h2 h3) fun H' _ => kD _⟩
theorem ok_law (T : Txt K mg C CF CB CN CT CS c1 c2) {P1 P2 P3 c3 : Addr} (A3 : Apart3 P1 P2 P3) (hTB : LamX.TabB base mg c3 P3) (G_Row : Mak P w K mg base 2 "Row" C (spInit C) []) (M_put : MetX P w K mg base (L2.CX P w) 4 C "put" (spPut C CF) []) (M_put0 : MetX P w K mg base (L2.CX P w) 4 C "put" (spPut C CF) [.non])
    (M_take : Met P w K mg base 2 C "take" (spTake C) []) (M_things : Met P w K mg base 1 C "things" (spThings C) []) (M_mark : Met P w K mg base 2 C "mark" (spMark C) []) (M_purse : Met P w K mg base 1 C "purse" (spPurse C) [])
    (XM_put : MetX P w K mg base (L2.CX P w) 3 C "put" (spPutX K C CN CT) []) (XM_put0 : MetX P w K mg base (L2.CX P w) 3 C "put" (spPutX K C CN CT) [.non])
    (G__law_next : Cal P w K mg base 1 "_law_next" (spNext K) []) (G__law_place : Cal P w K mg base 2 "_law_place" (spLPlace K) []) (G__law_odd : Cal P w K mg base 1 "_law_odd" (spOdd K) [])
    (G__law_numbers_refused : Cal P w K mg base 6 "_law_numbers_refused" (spNums (tbs P1 P2 P3)) []) (G__law_things_refused : Cal P w K mg base 6 "_law_things_refused" (spThingsR K C (tbs P1 P2 P3)) [])
    {f : Addr} {oc : Value} {od an : Option Addr} {kV doc pm ct : Value} {osl : Array (Option Value)}
    (lk : K.lookup f = some ⟨oc, od, .func (PySem.W.fnOf "law" "law" (defArgs s_law) (defBody s_law) (defScope s_law) .none kV doc pm an (.ref c3) ct), osl⟩) (hcd : PySem.W.codeIn K (.ref c3) "law" = true) :
    FnOk P w K mg base CX0 7 f (PySem.W.fnOf "law" "law" (defArgs s_law) (defBody s_law) (defScope s_law) .none kV doc pm an (.ref c3) ct) ["_law_script"] (spLawT K P1 P2 P3) := by
  have hTm := Apart3.m3 (P1 := P1) (P2 := P2) (P3 := P3)
  have hTu := A3.u3
  refine dfc_ok (k := 6) lk hcd sc_law (fun vs H Q E h => ?_) (fun A outer s H vs Q E hr h => ?_)
  · obtain ⟨_, _, rfl, _⟩ := h; rfl
  · obtain ⟨a, ns, rfl, hS, hlen, h1, h2, h3, kQ⟩ := h
    refine law_lock hS h1 h2 h3 kQ ?_
    clear hS h1 h2 h3 kQ
    refine ⟨_, (pss_cons (ps_set (i := 1) sc_law.nd rfl (Or.inl rfl) (pe_disp (pps_cons pe_str (pv 0) (pps_cons pe_str pe_int pps_nil)) (by rfl) (by rfl) (fun z => by cases z) (by decide)))
      (pss_cons (ps_set (i := 2) sc_law.nd rfl (Or.inr rfl) (pe_c G__law_next hr (by decide) rfl (pa_cons (pv 1) pa_nil)))
      (pss_cons (ps_set (i := 3) sc_law.nd rfl (Or.inr rfl) (pe_mk G_Row hr (by decide) rfl (pa_cons (pe_op op_add pe_int (pe_op op_mod (pe_op op_fdivW (pv 2) pe_int) pe_int)) pa_nil)))
      (pss_cons (ps_set (i := 4) sc_law.nd rfl (Or.inl rfl) (pe_disp (pps_cons pe_str (pe_lst pa_nil) (pps_cons pe_str pe_int pps_nil)) (by rfl) (by rfl) (fun z => by cases z) (by decide)))
      (pss_cons (ps_for PassesOwn.never rfl (pi_list (pe_slice sl_list (pv 0) po_none (po_some pe_int))) (pg_name (i := 5) sc_law.nd rfl (Or.inl rfl))
        (pss_cons (ps_set (i := 6) sc_law.nd rfl (Or.inl rfl) (pe_c G__law_place hr (by decide) rfl (pa_cons (pv 1) (pa_cons (pv 4) pa_nil))))
      (pss_cons (ps_expr (pe_mtX M_put hr (by decide) passL (pv 3) (pa_cons (pv 6) pa_nil)))
      (pss_cons (ps_expr (pe_bm PySem.F.plainAttrs_list PySem.F.slot_list_insert PySem.F.type_list_insert mt_insert (pe_dget (by exact hu_of hr) (pv 4) pe_str (fun _ _ => rfl)) (pa_cons (pe_ifExp (pt_cmpR op_isN (pv 6) pe_non (nomark _)) pe_int (pe_op op_add (pe_bm PySem.F.plainAttrs_list PySem.F.slot_list_index PySem.F.type_list_index mt_index (pe_dget (by exact hu_of hr) (pv 4) pe_str (fun _ _ => rfl)) (pa_cons (pv 6) pa_nil)) pe_int)) (pa_cons (pe_dget (by exact hu_of hr) (pv 4) pe_str (fun _ _ => rfl)) pa_nil))))
      (pss_one (ps_dput (by exact hu_of hr) (pv 4) pe_str (pe_op op_add (pe_dget (by exact hu_of hr) (pv 4) pe_str (fun _ _ => rfl)) pe_int) rfl))))))
      (pss_cons (ps_set (i := 7) sc_law.nd rfl (Or.inl rfl) (pe_un un_neg pe_int))
      (pss_cut (ps_if (pt_cmpR (op_neD (by exact hu64 hr)) (pe_dget (by exact hu_of hr) (pv 4) pe_str (fun _ _ => rfl)) (pe_lst pa_nil) (nomark _)) (pss_cons (ps_set (i := 7) sc_law.nd rfl (Or.inl rfl) (pe_bm PySem.F.plainAttrs_list PySem.F.slot_list_pop PySem.F.type_list_pop mt_popAt (pe_dget (by exact hu_of hr) (pv 4) pe_str (fun _ _ => rfl)) (pa_cons (pe_op op_mod (pe_op op_fdivW (pv 2) pe_int) (pe_callB (id := "len") call_len_seq (by rfl) T.n_len (by decide +kernel) (pa_cons (pe_dget (by exact hu_of hr) (pv 4) pe_str (fun _ _ => rfl)) pa_nil))) pa_nil)))
      (pss_one (ps_expr (pe_mt M_take hr (by decide) (pv 3) (pa_cons (pv 7) pa_nil))))) pss_nil)
      (pss_cons (ps_set (i := 8) sc_law.nd rfl (Or.inl rfl) (pe_dget (by exact hu_of hr) (pv 4) pe_str (fun _ _ => rfl)))
      (pss_cons (ps_set (i := 9) sc_law.nd rfl (Or.inl rfl) (pe_lst (pa_cons (pe_mt0 M_things hr (by decide) (pv 3)) (pa_cons (pe_lc (own := [("_law_one", 6)]) (g := (gName 6)) (by rfl) sc_law.nd (pi_list (pv 8)) (blkOk_by (own := [("_law_one", 6)]) (N := ["_law_script", "_law_state", "_law_n", "_law_row", "_law_m", "_law_cell", "_law_one", "_law_gone", "_law_line", "_law_kept", "_law_odd_here", "_law_last"]) (sc := defScope s_law) (by decide +kernel)) (fun _ _ _ _ _ => (pg_name (i := 6) sc_law.nd rfl (Or.inl rfl))) (fun _ _ _ _ _ => pts_nil) (fun _ _ _ _ _ => (pe_mt M_mark hr (by decide) (pv 3) (pa_cons (pv 6) pa_nil)))) (pa_cons (pe_mt0 M_purse hr (by decide) (pv 3)) pa_nil)))))
      (pss_cons (ps_for PassesOwn.never rfl (pi_tup (pe_tup (pa_cons (pe_c G__law_odd hr (by decide) rfl (pa_cons (pv 2) pa_nil)) (pa_cons (pv 7) (pa_cons (pe_dget (by exact hu_of hr) (pv 4) pe_str (fun _ _ => rfl)) (pa_cons (pe_op op_add (pe_dget (by exact hu_of hr) (pv 4) pe_str (fun _ _ => rfl)) (pe_op op_mulW (pv 2) (pe_op op_pow pe_int pe_int))) pa_nil)))))) (pg_name (i := 10) sc_law.nd rfl (Or.inl rfl))
        (pss_one (ps_if (pt_not (pt_val (pe_c G__law_things_refused hr (by decide) rfl (pa_cons (pv 3) (pa_cons (pv 8) (pa_cons (pv 10) pa_nil)))))) (pss_one (ps_ret pe_bl)) pss_nil)))
      (pss_cons (ps_if (PW.pt (pw_or (pt_not (pt_val (pe_c G__law_numbers_refused hr (by decide) rfl (pa_cons (pe_op op_fdivW (pv 2) pe_int) pa_nil)))) (pw_or1 (pt_cmpR (op_neD (by exact hu64 hr)) (pe_lst (pa_cons (pe_mt0 M_things hr (by decide) (pv 3)) (pa_cons (pe_lc (own := [("_law_one", 6)]) (g := (gName 6)) (by rfl) sc_law.nd (pi_list (pv 8)) (blkOk_by (own := [("_law_one", 6)]) (N := ["_law_script", "_law_state", "_law_n", "_law_row", "_law_m", "_law_cell", "_law_one", "_law_gone", "_law_line", "_law_kept", "_law_odd_here", "_law_last"]) (sc := defScope s_law) (by decide +kernel)) (fun _ _ _ _ _ => (pg_name (i := 6) sc_law.nd rfl (Or.inl rfl))) (fun _ _ _ _ _ => pts_nil) (fun _ _ _ _ _ => (pe_mt M_mark hr (by decide) (pv 3) (pa_cons (pv 6) pa_nil)))) (pa_cons (pe_mt0 M_purse hr (by decide) (pv 3)) pa_nil)))) (pv 9) (nomark _))))) (pss_one (ps_ret pe_bl)) pss_nil)
      (pss_cons (ps_if (pt_cmpR op_ne (pe_ix ix_tup (pe_mtX0 M_put0 hr (by decide) passL (pv 3)) pe_int (fun _ _ => rfl)) (pe_dget (by exact hu_of hr) (pv 4) pe_str (fun _ _ => rfl)) (nomark _)) (pss_one (ps_ret pe_bl)) pss_nil)
      (pss_cons (ps_while PassesOwn.never (pt_cmpR op_lt (pe_callB (id := "len") call_len_seq (by rfl) T.n_len (by decide +kernel) (pa_cons (pe_mt0 M_things hr (by decide) (pv 3)) pa_nil)) pe_int (nomark _)) (pss_one (ps_expr (pe_mtX M_put hr (by decide) passL (pv 3) (pa_cons (pe_ix ix_list (pe_mt0 M_things hr (by decide) (pv 3)) (pe_un un_neg pe_int) (fun _ _ => rfl)) pa_nil)))))
      (pss_cons (ps_set (i := 11) sc_law.nd rfl (Or.inr rfl) (pe_mt0 M_things hr (by decide) (pv 3)))
      (pss_cons (ps_if (pt_cmpR op_ne (pe_said (k := 3) T ⟨rfl, rfl⟩ hTB rfl hTm hTu (hr.mono (by decide)) (by show LamX.lamSB (defScope s_law) _ = true; decide +kernel) rfl (fun _ _ _ _ _ => rfl) (fun A outer s H E f c' hr2 => (pe_mtX0 XM_put0 hr2 (by decide) (passes_call (takes_of rfl rfl rfl rfl) fun _ _ _ _ q => q) (pv 3)))) pe_str (nomark _)) (pss_one (ps_ret pe_bl)) pss_nil)
      (pss_cons (ps_if (pt_cmpR op_ne (pe_said (k := 3) T ⟨rfl, rfl⟩ hTB rfl hTm hTu (hr.mono (by decide)) (by show LamX.lamSB (defScope s_law) _ = true; decide +kernel) rfl (fun _ _ _ _ _ => rfl) (fun A outer s H E f c' hr2 => (pe_mtX XM_put hr2 (by decide) (passes_call (takes_of rfl rfl rfl rfl) fun _ _ _ _ q => q) (pv 3) (pa_cons (pe_ix (ix_listK (K := K) rfl) (pv 11) (pe_op op_mod (pv 2) pe_int) (fun _ _ => rfl)) pa_nil)))) pe_str (nomark _)) (pss_one (ps_ret pe_bl)) pss_nil)
      (pss_cons (ps_if (PW.pt (pw_or (pt_cmpR op_ne (pe_said (k := 3) T ⟨rfl, rfl⟩ hTB rfl hTm hTu (hr.mono (by decide)) (by show LamX.lamSB (defScope s_law) _ = true; decide +kernel) rfl (fun _ _ _ _ _ => rfl) (fun A outer s H E f c' hr2 => (pe_mtX XM_put hr2 (by decide) (passes_call (takes_of rfl rfl rfl rfl) fun _ _ _ _ q => q) (pv 3) (pa_cons (pe_op op_pow pe_int pe_int) pa_nil)))) pe_str (nomark _)) (pw_or1 (pt_cmpR (op_neD (by exact hu64 hr)) (pe_mt0 M_things hr (by decide) (pv 3)) (pv 11) (nomark _))))) (pss_one (ps_ret pe_bl)) pss_nil)
      (pss_cons (ps_expr (pe_mt M_take hr (by decide) (pv 3) (pa_cons (pe_ix ix_list (pv 11) pe_int (fun _ _ => rfl)) pa_nil)))
      (pss_one (ps_ret (pe_cmpR op_eq (pe_ix ix_tup (pe_mtX0 M_put0 hr (by decide) passL (pv 3)) pe_int (fun _ _ => rfl)) (pe_op op_add (pe_callB (id := "max") (cr_max rfl) (by rfl) T.n_max (by decide +kernel) (pa_cons (pv 11) pa_nil)) pe_int) (nomark _)))))))))))))))))))))), fun D H0 hS hT kD => ?_⟩
    -- state
    refine fun st hst => ⟨_, rfl, upd_same, stD a 0, rfl, by show 2 ≤ 15; decide, ?_⟩
    rw [stD_new, upd_upd]
    have F1 : FT K (tbs P1 P2 P3) H0 a ns (upd H0 st (.dK (stD a ((0 : Nat) : Int)))) [(st, .dk (stD a ((0 : Nat) : Int)))] := FT.start hst hS hT
    change tSeq _ _ _ _ (upd H0 st (.dK (stD a ((0 : Nat) : Int))))
    generalize upd H0 st (.dK (stD a ((0 : Nat) : Int))) = H1 at *
    -- n
    refine ⟨_, rfl, st, a, 0, ns, rfl, F1.f.st 0 rfl, by omega, by omega, fun n H2 hn0 hn1 k2 S2 => ?_⟩
    have F2 : FT K (tbs P1 P2 P3) H0 a ns H2 [(st, .dk (stD a ((1 : Nat) : Int)))] := F1.one _ (i := 0) rfl k2 ⟨_, S2.dc, rfl⟩
    -- row
    refine ⟨_, rfl, _, _, rfl, rfl, ⟨by decide, by decide⟩, _, _, rfl, rfl, by (show (0 : Int) < _; first | decide | omega), _, _, rfl, rfl, ?_⟩
    dsimp only
    obtain ⟨wd, w20, w60, hwd⟩ : ∃ W : Nat, 20 ≤ W ∧ W ≤ 60 ∧ 40 + n / 3 % 21 = (W : Int) := ⟨(40 + n / 3 % 21).toNat, by omega, by omega, by omega⟩
    rw [hwd]
    intro p dx hp hdx hne
    refine ⟨p, dx, wd, _, rfl, rfl, upd_same, by omega, by omega, fun H3 l d k3 hl hd W3 => ⟨rfl, ?_⟩⟩
    obtain ⟨s23, hl2, hd2⟩ := made hp hdx k3 hl hd
    have G3 : Good (newR wd) := good_new (by omega) (by omega)
    have F3 : FT K (tbs P1 P2 P3) H0 a ns H3 _ := F2.addRow s23 hp hl2 hd2 W3
    have hg0 : (newR wd).given = 0 := rfl
    have ho0 : (newR wd).ord = [] := rfl
    have hwid : wd = (newR wd).wide := rfl
    generalize newR wd = r0 at *
    subst hwid
    -- m
    refine fun ma hma => ⟨Nat.zero_le _, fun la hla => ⟨?_, mD la 0, rfl, by show 2 ≤ 15; decide, ?_⟩⟩
    · have nml : ma ≠ la := ne_of_none upd_same hla
      rw [upd_ne nml, upd_same]
    rw [mD_new]
    have F4 := ((F3.push (.dk []) (same_new hma) hma ⟨_, upd_same, rfl⟩).pli (ys := []) hla).udk 4 (mD la 0) rfl
    -- the cells
    refine ⟨_, rfl, _, rfl, a, _, rfl, F4.f.scr.sq, fun ca hca => ⟨ca, rfl, ⟨_, SqL.of upd_same⟩, ?_⟩⟩
    have F5 := F4.pli (ys := cutV (ns.map V.int) none (some 30)) hca
    have e30 : cutV (ns.map V.int) none (some 30) = (ns.take 30).map V.int := by
      rw [show (some (30 : Int)) = some ((30 : Nat) : Int) from rfl, cut_to, List.map_take]
    rw [e30] at F5 ⊢
    have F6 : FT K (tbs P1 P2 P3) H0 a ns (upd (upd (upd (upd H3 ma (.dK [])) la (.lst [])) ma (.dK (mD la 0))) ca (.lst ((ns.take 30).map V.int))) (fs4 a st 1 p C l d r0 ma 0 la r0.ord ca (ns.take 30)) := by
      rw [ho0] at F5
      unfold fs4
      rw [ho0]
      exact F5
    generalize upd (upd (upd (upd H3 ma (.dK [])) la (.lst [])) ma (.dK (mD la 0))) ca (.lst ((ns.take 30).map V.int)) = H6 at *
    have hcl : (ns.take 30).length ≤ 30 := List.length_take_le ..
    generalize ns.take 30 = cells at *
    clear F1 F2 F3 F4 F5 W3
    refine for_list (K := K) (a := ca) (xs := cells.map V.int) (fun i σ H' => ∃ k l r, k ≤ 1 + i ∧ r.given ≤ i ∧ r.ord.length ≤ i ∧ Good r ∧ 20 ≤ r.wide ∧ FT K (tbs P1 P2 P3) H0 a ns H' (fs4 a st k p C l d r ma r.given la r.ord ca cells) ∧ ∃ z5 z6, σ = [some (.ref a), some (.ref st), some (.int n), some (.ref p), some (.ref ma), z5, z6, none, none, none, none, none])
      ⟨1, l, r0, by omega, by omega, by rw [ho0]; exact Nat.zero_le _, G3, w20, by rw [hg0]; exact F6, none, none, rfl⟩ (fun i σ H' _ q => by obtain ⟨k, l, r, _, _, _, _, _, F, _⟩ := q; exact SqL.of (F.f.li 6 rfl)) ?_ ?_
    · rintro i x σ H7 hi ⟨k, l, r, hk, hg, hol, G, hw, F7, z5, z6, rfl⟩
      have hi30 : i < 30 := by
        have := (List.getElem?_eq_some_iff.mp hi).1
        rw [List.length_map] at this
        omega
      obtain ⟨y, _, rfl⟩ := int_of hi
      -- one
      refine ⟨_, rfl, _, rfl, st, a, ma, la, k, r.given, ns, r.ord, rfl, F7.f.st 0 rfl, by omega, by omega, ⟨F7.f.dk 4 rfl, F7.f.li 5 rfl⟩, by omega, F7.f.ne (i := 0) (j := 4) rfl rfl (by decide), fun o H8 ho k8 S8 => ?_⟩
      have F8 : FT K (tbs P1 P2 P3) H0 a ns H8 (fs4 a st (k + 1) p C l d r ma r.given la r.ord ca cells) := F7.one _ (i := 0) rfl k8 ⟨_, S8.dc, rfl⟩
      have hpl := place_le ho
      have W8 := F8.f.row 1 2 3 rfl rfl rfl
      obtain ⟨dx8, hob8⟩ := W8.ob
      -- put
      refine ⟨_, rfl, p, dx8, _, rfl, hob8, rfl, _, rfl, p, l, d, r, o, rfl, W8, G, ho, by omega, by omega, fun hno => absurd hno (never_full G hw), fun st' marked hm H9 l' t qa cas stv e1 e2 e3 e4 W9 T9 => ?_⟩
      generalize hP : placeOf r o = n2 at *
      have G9 := good_put G hpl (by omega) (by omega) hm
      have F9 := F8.turn 1 2 3 rfl rfl rfl (by decide) (by decide) (by decide) (fun b u h h1 _ h3 => e1 b u h h1 h3) (.inr e2) W9
      have hL9 := F9.f.li 5 rfl
      -- the line
      refine ⟨_, rfl, ma, _, rfl, getLine (F9.f.dk 4 rfl), .inl ⟨rfl, _, SqL.of hL9⟩, ?_⟩
      refine if_placeM (o := o) rfl rfl (F9.f.dk 4 rfl) hL9 ho ?_
      rw [place_eq, hP]
      refine ⟨_, rfl, ma, _, rfl, getNext (F9.f.dk 4 rfl), la, _, _, _, rfl, rfl, hL9, smallL (by rw [List.length_map]; omega), by omega, by omega, ?_⟩
      rw [Int.toNat_natCast, line_ins]
      have F10 := F9.uli 5 ((ordIns r n2).map V.int) rfl
      refine ⟨_, rfl, ma, _, rfl, getNext (F10.f.dk 4 rfl), _, _, rfl, rfl, _, rfl, ma, _, rfl, putNext (F10.f.dk 4 rfl), ?_⟩
      have F11 := (F10.udk 4 (mD la ((r.given : Int) + 1)) rfl).top 7
      exact ⟨k + 1, l', putR r n2 marked, by omega, by show r.given + 1 ≤ _; omega, by show (ordIns r n2).length ≤ _; rw [ins_len]; omega, G9, hw, F11, _, _, rfl⟩
    rintro σ H7 ⟨k, l, r, hk, hg, hol, G, hw, F7, z5, z6, rfl⟩
    rw [List.length_map] at hk hg hol
    clear hg0 ho0 G3 F6 w20 w60 hwd
    -- gone
    refine ⟨_, rfl, ?_⟩
    refine ⟨fun σ' H' => ∃ l r' g, r'.given ≤ 30 ∧ r'.ord.length ≤ 30 ∧ Good r' ∧ 20 ≤ r'.wide ∧ (¬ g ∈ r'.ord) ∧ FT K (tbs P1 P2 P3) H0 a ns H' (fs4 a st k p C l d r' ma r'.given la r'.ord ca cells) ∧ σ' = [some (.ref a), some (.ref st), some (.int n), some (.ref p), some (.ref ma), z5, z6, some (.int g), none, none, none, none], ?_, ?_⟩
    · refine ⟨_, rfl, ma, _, rfl, getLine (F7.f.dk 4 rfl), Nat.zero_le _, fun e he => ⟨_, _, .lst (SqL.of ((same_new he) _ _ (F7.f.li 5 rfl))) (dp_ints r.ord), .lst (SqL.of upd_same) .nil, shaped_ints _, rfl, _, rfl, ?_⟩⟩
      rw [eqv_ints_nil]
      have F8 := F7.same (same_new (o := .lst []) he)
      refine iteOf (fun hy => ?_) (fun _ => ?_)
      · have hpos : 0 < r.ord.length := by
          cases ho : r.ord with
          | nil => rw [ho] at hy; cases hy
          | cons _ _ => exact Nat.succ_pos _
        have hL8 := F8.f.li 5 rfl
        have h1 := Int.emod_lt_of_pos (n / 7) (show (0 : Int) < (r.ord.length : Int) by omega)
        have h2 := Int.emod_nonneg (n / 7) (show (r.ord.length : Int) ≠ 0 by omega)
        obtain ⟨j, hj, ej⟩ : ∃ j : Nat, j < r.ord.length ∧ n / 7 % (((r.ord.map V.int).length : Nat) : Int) = (j : Int) := ⟨(n / 7 % (r.ord.length : Int)).toNat, by omega, by rw [List.length_map]; omega⟩
        refine ⟨_, rfl, ma, _, rfl, getLine (F8.f.dk 4 rfl), .inl ⟨rfl, _, SqL.of hL8⟩, _, rfl, _, _, rfl, rfl, ⟨by decide, by decide⟩, _, rfl, ma, _, rfl, getLine (F8.f.dk 4 rfl), la, _, rfl, .inl (SqL.of hL8), _, _, rfl, rfl, by rw [List.length_map]; omega, la, _, _, j, V.int r.ord[j], rfl, rfl, hL8, by rw [ej]; omega, by rw [ej]; omega, by rw [ej]; exact seq_at (by rw [List.length_map]; exact hj), by rw [List.getElem?_map, List.getElem?_eq_getElem hj]; rfl, ?_⟩
        rw [map_eraseI, erase_at G.nd (List.getElem?_eq_getElem hj)]
        have F9 := F8.uli 5 ((r.ord.erase r.ord[j]).map V.int) rfl
        have W9 := F9.f.row 1 2 3 rfl rfl rfl
        obtain ⟨dx9, hob9⟩ := W9.ob
        refine ⟨_, rfl, p, dx9, _, rfl, hob9, rfl, _, rfl, p, l, d, r, r.ord[j], rfl, W9, G, List.getElem_mem hj, fun H11 k11 W11 => ?_⟩
        have F11 := F9.turn 1 2 3 rfl rfl rfl (by decide) (by decide) (by decide) (fun b u h _ h2 h3 => k11 b u h h2 h3) (.inl rfl) W11
        exact ⟨l, takeR r r.ord[j], r.ord[j], by show r.given ≤ _; omega, Nat.le_trans (List.length_erase_le ..) (by omega), good_take G, hw, G.nd.not_mem_erase, F11, rfl⟩
      · exact ⟨l, r, -5, by omega, by omega, G, hw, fun hm => by have := (G.num _ hm).1; omega, F8, rfl⟩
    clear hk hg hol G hw F7
    rintro σ H8 ⟨l, r, g, hg, hol, G, hw, hgone, F8, rfl⟩
    -- line
    refine ⟨_, rfl, ma, _, rfl, getLine (F8.f.dk 4 rfl), ?_⟩
    -- kept
    have W8 := F8.f.row 1 2 3 rfl rfl rfl
    obtain ⟨dx8, hob8⟩ := W8.ob
    refine ⟨_, rfl, p, dx8, _, rfl, hob8, rfl, p, l, d, r, rfl, W8, fun q1 hq1 => ?_⟩
    have F9 := F8.pli (ys := r.ord.map V.int) hq1
    refine ⟨_, rfl, la, rfl, ⟨_, SqL.of (F9.f.li 5 rfl)⟩, fun D1 hD1 => ?_⟩
    refine lc_list (K := K) (a := la) (xs := (r.ord).map V.int) (fun j H' => H' = upd (upd H8 q1 (.lst (r.ord.map V.int))) D1 (.lst ((((r.ord).take j).map (r).mrk).map V.int))) rfl (fun j H' _ e => by rw [e]; exact (same_new hD1).seq (SqL.of (F9.f.li 5 rfl))) ?_ ?_
    · rintro j x H' hj rfl
      obtain ⟨z, hz, rfl⟩ : ∃ z, (r.ord)[j]? = some z ∧ x = V.int z := by
        rw [List.getElem?_map] at hj
        cases e : (r.ord)[j]? with
        | none => rw [e] at hj; cases hj
        | some z => rw [e] at hj; exact ⟨z, rfl, (Option.some.inj hj).symm⟩
      have Wx := ((F9.f.row 1 2 3 rfl rfl rfl)).keep (same_new (o := .lst ((((r.ord).take j).map (r).mrk).map V.int)) hD1)
      obtain ⟨dx2, ho2⟩ := Wx.ob
      refine ⟨rfl, _, rfl, p, dx2, _, rfl, ho2, rfl, _, rfl, p, l, d, r, z, rfl, Wx, (fun z hz => hz) z (List.mem_of_getElem? hz), ?_⟩
      refine ⟨_, upd_same, smallL (by rw [List.length_map, List.length_map]; have := List.length_take_le' j (r.ord); omega), ?_⟩
      rw [upd_upd, List.take_add_one, hz, List.map_append, List.map_append]
      rfl
    rintro HX rfl
    rw [List.length_map, List.take_length]
    have F10 := F9.pli (ys := (r.ord.map r.mrk).map V.int) hD1
    have W10 := F10.f.row 1 2 3 rfl rfl rfl
    obtain ⟨dx10, hob10⟩ := W10.ob
    refine ⟨_, rfl, p, dx10, _, rfl, hob10, rfl, p, l, d, r, rfl, W10, small (by show 3 ≤ 100000; decide), fun kq hkq => ?_⟩
    have F11 := F10.pli (ys := [.ref q1, .ref D1, .int r.purse]) hkq
    change tSeq _ _ _ _ (upd (upd (upd H8 q1 (.lst (r.ord.map V.int))) D1 (.lst ((r.ord.map r.mrk).map V.int))) kq (.lst [.ref q1, .ref D1, .int r.purse]))
    generalize upd (upd (upd H8 q1 (.lst (r.ord.map V.int))) D1 (.lst ((r.ord.map r.mrk).map V.int))) kq (.lst [.ref q1, .ref D1, .int r.purse]) = H11 at *
    -- odd ones
    have hb : n.natAbs < 2 ^ 30 := by omega
    refine ⟨_, rfl, n, rfl, hn0, by omega, fun H12 x s12 hx => ?_⟩
    have F12 := F11.same s12
    refine ⟨_, rfl, _, rfl, ma, _, rfl, getNext (F12.f.dk 4 rfl), _, rfl, ma, _, rfl, getNext (F12.f.dk 4 rfl), _, rfl, _, _, rfl, rfl, ⟨by decide, by decide, by decide⟩, _, _, rfl, rfl, wide_mul hb (show ((10 : Int) ^ 20).natAbs < 2 ^ 70 by decide) (by decide) (by decide) (by decide), _, _, rfl, rfl, small (by show 4 ≤ 100000; decide), fun tq htq => ?_⟩
    refine ⟨tq, rfl, ⟨_, SqT.of upd_same⟩, ?_⟩
    generalize hH13 : upd H12 tq _ = H13
    have F13 : FT K (tbs P1 P2 P3) H0 a ns H13 (fs4 a st k p C l d r ma r.given la r.ord ca cells ++ [(q1, .ls (r.ord.map V.int))] ++ [(D1, .ls ((r.ord.map r.mrk).map V.int))] ++ [(kq, .ls [.ref q1, .ref D1, .int r.purse])] ++ [(tq, .tu [x, .int g, .int (r.given : Int), .int ((r.given : Int) + n * 10 ^ 20)])]) := by
      rw [← hH13]
      exact F12.ptu htq
    have s13 : Same H12 H13 := by rw [← hH13]; exact same_new htq
    have hbig : 0 ≤ n * 10 ^ 20 := Int.mul_nonneg hn0 (by decide)
    have B13 : ∀ y ∈ [x, .int g, .int (r.given : Int), .int ((r.given : Int) + n * 10 ^ 20)], BadT K H13 r y := fun y hy => by
      simp only [List.mem_cons, List.not_mem_nil, or_false] at hy
      rcases hy with e | e | e | e <;> rw [e]
      · exact (hx.ext (ext_same s13)).thing G
      · exact .inr ⟨_, rfl, hgone⟩
      · exact .inr ⟨_, rfl, fun hm => by have := (G.num _ hm).2; omega⟩
      · exact .inr ⟨_, rfl, fun hm => by have := (G.num _ hm).2; omega⟩
    clear F9 F10 F11 F12 W8 W10
    refine for_tup (K := K) (a := tq) (xs := [x, .int g, .int (r.given : Int), .int ((r.given : Int) + n * 10 ^ 20)]) (fun i σ H' => LamX.ExtN H13 H' ∧ LamX.Tabs (tbs P1 P2 P3) H' ∧ ∃ z10, σ = [some (.ref a), some (.ref st), some (.int n), some (.ref p), some (.ref ma), z5, z6, some (.int g), some (.ref la), some (.ref kq), z10, none])
      ⟨LamX.ExtN.refl _, F13.t, none, rfl⟩ (fun i σ H' _ q => SqT.of (q.1 _ _ (F13.f.tu 10 rfl) (fun _ z => by cases z))) ?_ ?_
    · rintro i y σ H14 hy ⟨e14, T14, z10, rfl⟩
      have F14 := F13.ext e14 T14
      refine ⟨_, rfl, _, rfl, _, rfl, p, l, d, la, r, y, rfl, F14.f.row 1 2 3 rfl rfl rfl, F14.f.li 5 rfl, by omega, (B13 y (List.mem_of_getElem? hy)).ext e14, T14, fun H15 e15 T15 => ⟨_, rfl, iteF ?_⟩⟩
      exact ⟨e14.trans e15, T15, _, rfl⟩
    rintro σ H14 ⟨e14, T14, z10, rfl⟩
    have F14 := F13.ext e14 T14
    -- numbers
    refine ⟨_, rfl, _, _, rfl, rfl, ⟨by decide, by decide⟩, n / 11, rfl, by omega, by omega, T14, fun H15 e15 T15 => ⟨_, rfl, iteF ?_⟩⟩
    have F15 := F14.ext e15 T15
    -- all as it was
    have W15 := F15.f.row 1 2 3 rfl rfl rfl
    obtain ⟨dx15, hob15⟩ := W15.ob
    refine ⟨_, rfl, p, dx15, _, rfl, hob15, rfl, p, l, d, r, rfl, W15, fun q2 hq2 => ?_⟩
    have F16 := F15.pli (ys := r.ord.map V.int) hq2
    refine ⟨_, rfl, la, rfl, ⟨_, SqL.of (F16.f.li 5 rfl)⟩, fun D2 hD2 => ?_⟩
    refine lc_list (K := K) (a := la) (xs := (r.ord).map V.int) (fun j H' => H' = upd (upd H15 q2 (.lst (r.ord.map V.int))) D2 (.lst ((((r.ord).take j).map (r).mrk).map V.int))) rfl (fun j H' _ e => by rw [e]; exact (same_new hD2).seq (SqL.of (F16.f.li 5 rfl))) ?_ ?_
    · rintro j x H' hj rfl
      obtain ⟨z, hz, rfl⟩ : ∃ z, (r.ord)[j]? = some z ∧ x = V.int z := by
        rw [List.getElem?_map] at hj
        cases e : (r.ord)[j]? with
        | none => rw [e] at hj; cases hj
        | some z => rw [e] at hj; exact ⟨z, rfl, (Option.some.inj hj).symm⟩
      have Wx := ((F16.f.row 1 2 3 rfl rfl rfl)).keep (same_new (o := .lst ((((r.ord).take j).map (r).mrk).map V.int)) hD2)
      obtain ⟨dx2, ho2⟩ := Wx.ob
      refine ⟨rfl, _, rfl, p, dx2, _, rfl, ho2, rfl, _, rfl, p, l, d, r, z, rfl, Wx, (fun z hz => hz) z (List.mem_of_getElem? hz), ?_⟩
      refine ⟨_, upd_same, smallL (by rw [List.length_map, List.length_map]; have := List.length_take_le' j (r.ord); omega), ?_⟩
      rw [upd_upd, List.take_add_one, hz, List.map_append, List.map_append]
      rfl
    rintro HX rfl
    rw [List.length_map, List.take_length]
    have F17 := F16.pli (ys := (r.ord.map r.mrk).map V.int) hD2
    have W17 := F17.f.row 1 2 3 rfl rfl rfl
    obtain ⟨dx17, hob17⟩ := W17.ob
    refine ⟨_, rfl, p, dx17, _, rfl, hob17, rfl, p, l, d, r, rfl, W17, small (by show 3 ≤ 100000; decide), fun kq2 hkq2 => ?_⟩
    have F18 := F17.pli (ys := [.ref q2, .ref D2, .int r.purse]) hkq2
    refine ⟨_, rfl, _, _, kept_dp (r := r) (F18.f.li 11 rfl) (F18.f.li 12 rfl) (F18.f.li 13 rfl), kept_dp (r := r) (F18.f.li 7 rfl) (F18.f.li 8 rfl) (F18.f.li 9 rfl), (kept_ok r).1, (kept_ok r).1, _, rfl, ?_⟩
    rw [kept_eq]
    refine iteF ?_
    have F19 := F18.top 7
    change tSeq _ _ _ _ (upd (upd (upd H15 q2 (.lst (r.ord.map V.int))) D2 (.lst ((r.ord.map r.mrk).map V.int))) kq2 (.lst [.ref q2, .ref D2, .int r.purse]))
    generalize upd (upd (upd H15 q2 (.lst (r.ord.map V.int))) D2 (.lst ((r.ord.map r.mrk).map V.int))) kq2 (.lst [.ref q2, .ref D2, .int r.purse]) = H19 at *
    -- the next number
    have W19 := F19.f.row 1 2 3 rfl rfl rfl
    obtain ⟨dx19, hob19⟩ := W19.ob
    refine ⟨_, rfl, p, dx19, _, rfl, hob19, rfl, p, l, d, r, none, rfl, W19, G, (fun x e => by cases e), by omega, by omega, fun hno => absurd hno (never_full G hw), fun st' marked hm H20 l1 t qa cas stv e1 e2 e3 e4 W20 T20 => ?_⟩
    generalize hP : placeOf r none = n2 at *
    have hpl : n2 ≤ r.ord.length := by rw [← hP]; exact place_le (o := none) (fun x e => by cases e)
    have G20 := good_put G hpl (by omega) (by omega) hm
    have F20 := F19.turn 1 2 3 rfl rfl rfl (by decide) (by decide) (by decide) (fun b u h h1 _ h3 => e1 b u h h1 h3) (.inr e2) W20
    refine ⟨t, _, _, _, rfl, rfl, SqT.of T20.tu, atI_nat (j := 0) rfl, _, rfl, ma, _, rfl, getNext (F20.f.dk 4 rfl), rfl, _, rfl, ?_⟩
    refine iteNS rfl ?_
    have F21 := F20.top 7
    have hlen1 : (putR r n2 marked).ord.length = r.ord.length + 1 := ins_len
    have hlast1 : (((putR r n2 marked).given : Int) - 1) ∈ (putR r n2 marked).ord := mem_ins.mpr (.inl (by show ((r.given + 1 : Nat) : Int) - 1 = _; omega))
    have hgv1 : (putR r n2 marked).given = r.given + 1 := rfl
    have hw1 : 20 ≤ (putR r n2 marked).wide := hw
    generalize putR r n2 marked = r1 at *
    -- things are put behind the last until 200 are there
    refine ⟨fun m σ' H' => ∃ l' r', m = 200 - r'.ord.length ∧ 1 ≤ r'.ord.length ∧ r'.ord.length ≤ 200 ∧ r'.given ≤ r'.ord.length + 40 ∧ Good r' ∧ 20 ≤ r'.wide ∧ (((r'.given : Int) - 1) ∈ r'.ord) ∧ FT K (tbs P1 P2 P3) H0 a ns H' (fs4 a st k p C l' d r' ma r.given la r.ord ca cells) ∧ σ' = [some (.ref a), some (.ref st), some (.int n), some (.ref p), some (.ref ma), z5, z6, some (.int g), some (.ref la), some (.ref kq), z10, none], ⟨_, l1, r1, rfl, by omega, by omega, by omega, G20, hw1, hlast1, F21, rfl⟩, ?_⟩
    clear F13 F14 F15 F16 F17 F18 F19 F20 F21 W15 W17 W19 W20 T20 hlen1 hlast1 hgv1 hw1 G20
    rintro m σ H22 ⟨l', r', rfl, hp1, hp2, hgv, G', hw', hlast', F22, rfl⟩
    have W22 := F22.f.row 1 2 3 rfl rfl rfl
    obtain ⟨dx22, hob22⟩ := W22.ob
    refine ⟨_, rfl, p, dx22, _, rfl, hob22, rfl, p, l', d, r', rfl, W22, fun q3 hq3 => ⟨q3, _, rfl, .inl (SqL.of upd_same), _, _, rfl, rfl, _, rfl, ?_⟩⟩
    rw [List.length_map]
    have F23 := F22.pli (ys := r'.ord.map V.int) hq3
    refine ite2d (fun hlt => ?_) (fun hge => ?_)
    · have hy := getD_mem (xs := r'.ord) (i := r'.ord.length - 1) (by omega)
      have hat := atI_lastI (xs := r'.ord) (by omega)
      generalize r'.ord.getD (r'.ord.length - 1) 0 = y at *
      refine ⟨_, fun _ _ h => h, ?_⟩
      have W23 := F23.f.row 1 2 3 rfl rfl rfl
      obtain ⟨dx23, hob23⟩ := W23.ob
      refine ⟨_, rfl, p, dx23, _, rfl, hob23, rfl, _, rfl, p, dx23, _, rfl, hob23, rfl, p, l', d, r', rfl, W23, fun q4 hq4 => ?_⟩
      have F24 := F23.pli (ys := r'.ord.map V.int) hq4
      have W24 := F24.f.row 1 2 3 rfl rfl rfl
      have hpl' : ∀ z, some y = some z → z ∈ r'.ord := fun z e => by cases e; exact hy
      refine ⟨_, rfl, q4, _, _, _, rfl, rfl, SqL.of upd_same, hat, p, l', d, r', some y, rfl, W24, G', hpl', by omega, by omega, fun hno => absurd hno (never_full G' hw'), fun st' marked hm H25 l2 t qa cas stv e1 e2 e3 e4 W25 T25 => ?_⟩
      have hpl := place_le hpl'
      generalize hP : placeOf r' (some y) = n2 at *
      have G25 := good_put G' hpl (by omega) (by omega) hm
      have F25 := (F24.turn 1 2 3 rfl rfl rfl (by decide) (by decide) (by decide) (fun b u h h1 _ h3 => e1 b u h h1 h3) (.inr e2) W25).top 7
      have hlen1 : (putR r' n2 marked).ord.length = r'.ord.length + 1 := ins_len
      exact ⟨_, by rw [show 200 - (putR r' n2 marked).ord.length = 200 - (r'.ord.length + 1) by rw [hlen1]]; omega, l2, putR r' n2 marked, rfl, by omega, by omega, by show r'.given + 1 ≤ _; omega, G25, hw', mem_ins.mpr (.inl (by show ((r'.given + 1 : Nat) : Int) - 1 = _; omega)), F25, rfl⟩
    · have h200 : r'.ord.length = 200 := by omega
      have W23 := F23.f.row 1 2 3 rfl rfl rfl
      obtain ⟨dx23, hob23⟩ := W23.ob
      -- last
      refine ⟨_, rfl, p, dx23, _, rfl, hob23, rfl, p, l', d, r', rfl, W23, fun q4 hq4 => ?_⟩
      have F24 := F23.pli (ys := r'.ord.map V.int) hq4
      -- many
      refine ⟨F24.t, fun H25 e25 T25 R hR => ?_⟩
      have F25 := F24.ext e25 T25
      have W25 := F25.f.row 1 2 3 rfl rfl rfl
      obtain ⟨dx25, hob25⟩ := W25.ob
      refine ⟨_, rfl, p, dx25, _, rfl, hob25, rfl, p, l', d, r', .non, rfl, W25, .inr ⟨⟨none, rfl, fun y e => by cases e⟩, by omega, rfl, _, .inr (.inr ⟨rfl, rfl⟩), fun H26 s26 => ⟨rfl, _, rfl, iteNS rfl ?_⟩⟩⟩
      have F26 := F25.same s26
      -- many, behind one
      refine ⟨F26.t, fun H27 e27 T27 R hR => ?_⟩
      have F27 := F26.ext e27 T27
      have W27 := F27.f.row 1 2 3 rfl rfl rfl
      obtain ⟨dx27, hob27⟩ := W27.ob
      obtain ⟨y, hy, hat⟩ := ix_mod (xs := r'.ord) (by omega) n
      rw [List.length_map, h200] at hat
      refine ⟨_, rfl, p, dx27, _, rfl, hob27, rfl, _, rfl, _, rfl, _, _, rfl, rfl, by (show (0 : Int) < _; first | decide | omega), q4, _, _, _, rfl, rfl, SqL.of (F27.f.li 8 rfl), hat, p, l', d, r', _, rfl, W27, .inr ⟨⟨some y, rfl, fun z e => by cases e; exact hy⟩, by omega, rfl, _, .inr (.inr ⟨rfl, rfl⟩), fun H28 s28 => ⟨rfl, _, rfl, iteNS rfl ?_⟩⟩⟩
      have F28 := F27.same s28
      -- no thing
      refine ⟨F28.t, fun H29 e29 T29 R hR => ?_⟩
      have F29 := F28.ext e29 T29
      have W29 := F29.f.row 1 2 3 rfl rfl rfl
      obtain ⟨dx29, hob29⟩ := W29.ob
      refine ⟨_, rfl, p, dx29, _, rfl, hob29, rfl, _, _, rfl, rfl, ⟨by decide, by decide, by decide⟩, p, l', d, r', _, rfl, W29, .inl ⟨(by intro z; cases z), .inr ⟨_, rfl, fun hm => ?_⟩, rfl, _, .inr (.inl ⟨rfl, rfl⟩), fun H30 s30 => ⟨rfl, _, rfl, iteNS rfl ?_⟩⟩⟩
      · have h1 := (G'.num _ hm).2
        have h2 : (1000000000 : Int) < (r'.given : Int) := h1
        omega
      have F30 := F29.same s30
      have W30 := F30.f.row 1 2 3 rfl rfl rfl
      obtain ⟨dx30, hob30⟩ := W30.ob
      refine ⟨_, rfl, p, dx30, _, rfl, hob30, rfl, p, l', d, r', rfl, W30, fun q5 hq5 => ?_⟩
      have F31 := F30.pli (ys := r'.ord.map V.int) hq5
      refine ⟨_, rfl, _, _, .lst (SqL.of upd_same) (dp_ints r'.ord), .lst (SqL.of (F31.f.li 8 rfl)) (dp_ints r'.ord), shaped_ints _, shaped_ints _, _, rfl, ?_⟩
      rw [eqv_ints]
      refine iteF ?_
      have W31 := F31.f.row 1 2 3 rfl rfl rfl
      obtain ⟨dx31, hob31⟩ := W31.ob
      -- one is taken
      have hx0 := getD_mem (xs := r'.ord) (i := 0) (by omega)
      refine ⟨_, rfl, p, dx31, _, rfl, hob31, rfl, _, rfl, q4, _, _, _, rfl, rfl, SqL.of (F31.f.li 8 rfl), atI_nat (j := 0) (getD_at (by omega)), p, l', d, r', _, rfl, W31, G', hx0, fun H32 k32 W32 => ?_⟩
      generalize r'.ord.getD 0 0 = x0 at *
      have F32 := F31.turn 1 2 3 rfl rfl rfl (by decide) (by decide) (by decide) (fun b u h _ h2 h3 => k32 b u h h2 h3) (.inl rfl) W32
      have G32 := good_take (x := x0) G'
      have hle : (takeR r' x0).ord.length = r'.ord.length - 1 := List.length_erase_of_mem hx0
      have hgt : (takeR r' x0).given = r'.given := rfl
      have hwt : 20 ≤ (takeR r' x0).wide := hw'
      obtain ⟨dx32, hob32⟩ := W32.ob
      generalize takeR r' x0 = r2 at *
      -- the last number, and one more
      refine ⟨_, rfl, p, dx32, _, rfl, hob32, rfl, p, l', d, r2, none, rfl, W32, G32, (fun x e => by cases e), by omega, by omega, fun hno => absurd hno (never_full G32 hwt), fun st' marked hm H33 l3 t qa cas stv e1 e2 e3 e4 W33 T33 => ?_⟩
      have F33 := F32.turn 1 2 3 rfl rfl rfl (by decide) (by decide) (by decide) (fun b u h h1 _ h3 => e1 b u h h1 h3) (.inr e2) W33
      refine ⟨t, _, _, _, rfl, rfl, SqT.of T33.tu, atI_nat (j := 0) rfl, _, rfl, q4, r'.ord, rfl, SqL.of (F33.f.li 8 rfl), by omega, fun m hm1 hm2 => ⟨_, _, rfl, rfl, rfl, ?_⟩⟩
      have h1 := (G'.num m hm1).2
      have h2 := hm2 _ hlast'
      have hm3 : (r2.given : Int) = m + 1 := by omega
      dsimp only
      rw [hm3, decide_eq_true rfl]
      exact kD _ F33.z

/-! ### all that the row promises -/
structure AllRow (P : Program) (w : World) (K : PySem.W.Frag) (mg : Str → Option Value) (base : Heap) (C CF : Addr) : Prop where
  init : Mak P w K mg base 2 "Row" C (spInit C) []
  put : MetX P w K mg base (L2.CX P w) 4 C "put" (spPut C CF) [] ∧ MetX P w K mg base (L2.CX P w) 4 C "put" (spPut C CF) [.non]
  take : Met P w K mg base 2 C "take" (spTake C) []
  things : Met P w K mg base 1 C "things" (spThings C) []
  chk : Met P w K mg base 1 C "_check_thing" (spChk C) []
theorem all_row (T : Txt K mg C CF CB CN CT CS c1 c2) : AllRow P w K mg base C CF :=
  have g1 : Cal P w K mg base 1 "check_within" spCheck [] := ok_check_within T
  have g2 : Cal P w K mg base 1 "power" spPower [] := ok_power T
  have g3 : Cal P w K mg base 2 "is_too_full" spToo [] := ok_is_too_full T g1 g2
  have g4 : Cal P w K mg base 2 "stretch_at" spAt [] := ok_stretch_at T g1
  have g5 : Cal P w K mg base 2 "spread" spSpread [] := ok_spread T g1
  have m1 : Met P w K mg base 1 C "_check_thing" (spChk C) [] := ok_chk T
  have m2 : Met P w K mg base 2 C "_place_behind" (spPlace C) [] := ok_place T m1
  have m3 : Met P w K mg base 1 C "_marks_around" (spAround C) [] := ok_around T
  have m4 : Met P w K mg base 1 C "_lies_in" (spLies C) [] := ok_lies T
  have m5 : MetX P w K mg base (L2.CX P w) 3 C "_stretch_to_spread" (spSeek C CF) [] := ok_seek T m4 g4 g3
  have m6 : Met P w K mg base 3 C "_spread_marks" (spSpreadM C) [] := ok_spreadM T m4 g5
  ⟨ok_init T g1, ok_put T fun F => ok_putF T m2 m3 m5 m6 F, ok_take T m1, ok_things T, m1⟩

theorem ok_all (T : Txt K mg C CF CB CN CT CS c1 c2) {P1 P2 P3 c3 : Addr} (A3 : Apart3 P1 P2 P3) (h1 : LamX.TabB base mg c1 P1) (h2 : LamX.TabB base mg c2 P2) (h3 : LamX.TabB base mg c3 P3) {f : Addr} {oc : Value} {od an : Option Addr} {kV doc pm ct : Value} {osl : Array (Option Value)}
    (lk : K.lookup f = some ⟨oc, od, .func (PySem.W.fnOf "law" "law" (defArgs s_law) (defBody s_law) (defScope s_law) .none kV doc pm an (.ref c3) ct), osl⟩) (hcd : PySem.W.codeIn K (.ref c3) "law" = true) :
    FnOk P w K mg base CX0 7 f (PySem.W.fnOf "law" "law" (defArgs s_law) (defBody s_law) (defScope s_law) .none kV doc pm an (.ref c3) ct) ["_law_script"] (spLawT K P1 P2 P3) :=
  have A := all_row (P := P) (w := w) (base := base) T
  have q1 := ok_checkX (P := P) (w := w) (base := base) T
  have q2 := ok_tooX T q1
  have q3 := ok_atX T q1
  have q4 := ok_spreadX T q1
  have q5 := ok_initX T q1
  have x1 := ok_chkX (P := P) (w := w) (base := base) T
  have x2 := ok_takeX T x1
  have x3 := ok_markX T x1
  have x4 := ok_aheadX T x1
  have x6 := ok_putX T (ok_placeX T x1)
  have od := ok_odd (P := P) (w := w) (base := base) T
  have nx := ok__law_next (P := P) (w := w) (base := base) T
  have nums := ok_nums T A3 h1 A.init q5 q2 q3 q4 od
  have things := ok_thingsr T A3 h2 x6.1 x2 x3 x4
  ok_law T A3 h3 A.init A.put.1 A.put.2 A.take A.things (ok_mark T A.chk) (ok_purse T) x6.1 x6.2 nx (ok__law_place T nx) od nums things lk hcd

end
theorem all3 {p : Addr × Addr → Prop} {a b c : Addr × Addr} (h1 : p a) (h2 : p b) (h3 : p c) : ∀ x ∈ [a, b, c], p x := fun x hx => by
  simp only [List.mem_cons, List.not_mem_nil, or_false] at hx
  rcases hx with e | e | e <;> rw [e] <;> assumption
theorem all_mk {l : PySem.W.OpenLaw} {w : World} {K : PySem.W.Frag} {h : Heap} {mg : Str → Option Value} {fa : Addr} {C : Addr} {fI : Addr} {odI anI : Option Addr} {slI : Array (Option Value)} {ocI kVI dcI pmI cdI ctI : Value} {Tq : Addr} {otq : Value} {odq : Option Addr} {ntq : Nat} {slq : Array (Option Value)} {fP : Addr} {odP anP : Option Addr} {slP : Array (Option Value)} {ocP kVP dcP pmP cdP ctP : Value} {fm23 : Addr} {odm23 anm23 : Option Addr} {slm23 : Array (Option Value)} {ocm23 kVm23 dcm23 pmm23 cdm23 ctm23 : Value} {fm28 : Addr} {odm28 anm28 : Option Addr} {slm28 : Array (Option Value)} {ocm28 kVm28 dcm28 pmm28 cdm28 ctm28 : Value} {fm33 : Addr} {odm33 anm33 : Option Addr} {slm33 : Array (Option Value)} {ocm33 kVm33 dcm33 pmm33 cdm33 ctm33 : Value} {fm38 : Addr} {odm38 anm38 : Option Addr} {slm38 : Array (Option Value)} {ocm38 kVm38 dcm38 pmm38 cdm38 ctm38 : Value} {fm43 : Addr} {odm43 anm43 : Option Addr} {slm43 : Array (Option Value)} {ocm43 kVm43 dcm43 pmm43 cdm43 ctm43 : Value} {fm48 : Addr} {odm48 anm48 : Option Addr} {slm48 : Array (Option Value)} {ocm48 kVm48 dcm48 pmm48 cdm48 ctm48 : Value} {fm53 : Addr} {odm53 anm53 : Option Addr} {slm53 : Array (Option Value)} {ocm53 kVm53 dcm53 pmm53 cdm53 ctm53 : Value} {fm58 : Addr} {odm58 anm58 : Option Addr} {slm58 : Array (Option Value)} {ocm58 kVm58 dcm58 pmm58 cdm58 ctm58 : Value} {CF : Addr} {f1 : Addr} {od1 an1 : Option Addr} {sl1 : Array (Option Value)} {oc1 kV1 dc1 pm1 cd1 ct1 : Value} {f2 : Addr} {od2 an2 : Option Addr} {sl2 : Array (Option Value)} {oc2 kV2 dc2 pm2 cd2 ct2 : Value} {f3 : Addr} {od3 an3 : Option Addr} {sl3 : Array (Option Value)} {oc3 kV3 dc3 pm3 cd3 ct3 : Value} {f4 : Addr} {od4 an4 : Option Addr} {sl4 : Array (Option Value)} {oc4 kV4 dc4 pm4 cd4 ct4 : Value} {f5 : Addr} {od5 an5 : Option Addr} {sl5 : Array (Option Value)} {oc5 kV5 dc5 pm5 cd5 ct5 : Value} {t_MOST_LEVEL : Tok} {t_MOST_SPREAD : Tok} {t_LEAST_WIDE : Tok} {t_MOST_WIDE : Tok} {t_MOST_THINGS : Tok} {t_PAID_FOR_EACH_WIDE : Tok} {CB : Addr} {CN : Addr} {CT : Addr} {fm125 : Addr} {odm125 anm125 : Option Addr} {slm125 : Array (Option Value)} {ocm125 kVm125 dcm125 pmm125 cdm125 ctm125 : Value} {fm130 : Addr} {odm130 anm130 : Option Addr} {slm130 : Array (Option Value)} {ocm130 kVm130 dcm130 pmm130 cdm130 ctm130 : Value} {fm135 : Addr} {odm135 anm135 : Option Addr} {slm135 : Array (Option Value)} {ocm135 kVm135 dcm135 pmm135 cdm135 ctm135 : Value} {CS : Addr} {f6 : Addr} {od6 an6 : Option Addr} {sl6 : Array (Option Value)} {oc6 kV6 dc6 pm6 cd6 ct6 : Value} {f7 : Addr} {od7 an7 : Option Addr} {sl7 : Array (Option Value)} {oc7 kV7 dc7 pm7 cd7 ct7 : Value} {f8 : Addr} {od8 an8 : Option Addr} {sl8 : Array (Option Value)} {oc8 kV8 dc8 pm8 cd8 ct8 : Value} {f9 : Addr} {od9 an9 : Option Addr} {sl9 : Array (Option Value)} {oc9 kV9 dc9 pm9 cd9 ct9 : Value} {cc1 : Addr} {f10 : Addr} {od10 an10 : Option Addr} {sl10 : Array (Option Value)} {oc10 kV10 dc10 pm10 ct10 : Value} {cc2 : Addr} {f11 : Addr} {od11 an11 : Option Addr} {sl11 : Array (Option Value)} {oc11 kV11 dc11 pm11 ct11 : Value} {cc3 : Addr} {fL : Addr} {odL anL : Option Addr} {slL : Array (Option Value)} {ocL kVL dcL pmL ctL : Value} {P1 P2 P3 : Addr} (X : K.In h) (G : h.Ns mainGlobals mg) (hfa : mg "law" = some (.ref fa))
    (aC : PySem.W.nsIn K mainGlobals "Row" = some (some (.ref C)))
    (pg : PySem.W.plainGet K C Str.empty = true)
    (hd : PySem.W.hasDictIn K C = true)
    (po : PySem.W.plainOver K C = true)
    (sa : PySem.W.findIn K (.ref C) "__setattr__" = some (some (.builtin "object.__setattr__")))
    (nW : PySem.W.findIn K (.ref C) "_wide" = some none)
    (nO : PySem.W.findIn K (.ref C) "_order" = some none)
    (nM : PySem.W.findIn K (.ref C) "_marks" = some none)
    (nG : PySem.W.findIn K (.ref C) "_given" = some none)
    (nP : PySem.W.findIn K (.ref C) "_purse" = some none)
    (aI : PySem.W.findIn K (.ref C) "__init__" = some (some (.ref fI)))
    (iI : PySem.W.isFn K (.ref fI) = true)
    (lI : K.lookup fI = some ⟨ocI, odI, .func (PySem.W.fnOf "__init__" "Row.__init__" (defArgs s_Row___init__) (defBody s_Row___init__) (defScope s_Row___init__) .none kVI dcI pmI anI cdI ctI), slI⟩)
    (cI : PySem.W.codeIn K cdI "Row.__init__" = true)
    (kI : PySem.W.keepIn K (.ref fI) = true)
    (mkC : PySem.W.makesIn K C = true)
    (kpC : PySem.W.keepIn K (.ref C) = true)
    (aP : PySem.W.findIn K (.ref C) "put" = some (some (.ref fP)))
    (iP : PySem.W.isFn K (.ref fP) = true)
    (lP : K.lookup fP = some ⟨ocP, odP, .func (PySem.W.fnOf "put" "Row.put" (defArgs s_Row_put) (defBody s_Row_put) (defScope s_Row_put) (.ref Tq) kVP dcP pmP anP cdP ctP), slP⟩)
    (cP : PySem.W.codeIn K cdP "Row.put" = true)
    (kP : PySem.W.keepIn K (.ref fP) = true)
    (lT : K.lookup Tq = some ⟨otq, odq, .seq #[.none] ntq, slq⟩)
    (am23 : PySem.W.findIn K (.ref C) "take" = some (some (.ref fm23)))
    (im23 : PySem.W.isFn K (.ref fm23) = true)
    (lm23 : K.lookup fm23 = some ⟨ocm23, odm23, .func (PySem.W.fnOf "take" "Row.take" (defArgs s_Row_take) (defBody s_Row_take) (defScope s_Row_take) .none kVm23 dcm23 pmm23 anm23 cdm23 ctm23), slm23⟩)
    (cm23 : PySem.W.codeIn K cdm23 "Row.take" = true)
    (km23 : PySem.W.keepIn K (.ref fm23) = true)
    (am28 : PySem.W.findIn K (.ref C) "things" = some (some (.ref fm28)))
    (im28 : PySem.W.isFn K (.ref fm28) = true)
    (lm28 : K.lookup fm28 = some ⟨ocm28, odm28, .func (PySem.W.fnOf "things" "Row.things" (defArgs s_Row_things) (defBody s_Row_things) (defScope s_Row_things) .none kVm28 dcm28 pmm28 anm28 cdm28 ctm28), slm28⟩)
    (cm28 : PySem.W.codeIn K cdm28 "Row.things" = true)
    (km28 : PySem.W.keepIn K (.ref fm28) = true)
    (am33 : PySem.W.findIn K (.ref C) "_check_thing" = some (some (.ref fm33)))
    (im33 : PySem.W.isFn K (.ref fm33) = true)
    (lm33 : K.lookup fm33 = some ⟨ocm33, odm33, .func (PySem.W.fnOf "_check_thing" "Row._check_thing" (defArgs s_Row__check_thing) (defBody s_Row__check_thing) (defScope s_Row__check_thing) .none kVm33 dcm33 pmm33 anm33 cdm33 ctm33), slm33⟩)
    (cm33 : PySem.W.codeIn K cdm33 "Row._check_thing" = true)
    (km33 : PySem.W.keepIn K (.ref fm33) = true)
    (am38 : PySem.W.findIn K (.ref C) "_place_behind" = some (some (.ref fm38)))
    (im38 : PySem.W.isFn K (.ref fm38) = true)
    (lm38 : K.lookup fm38 = some ⟨ocm38, odm38, .func (PySem.W.fnOf "_place_behind" "Row._place_behind" (defArgs s_Row__place_behind) (defBody s_Row__place_behind) (defScope s_Row__place_behind) .none kVm38 dcm38 pmm38 anm38 cdm38 ctm38), slm38⟩)
    (cm38 : PySem.W.codeIn K cdm38 "Row._place_behind" = true)
    (km38 : PySem.W.keepIn K (.ref fm38) = true)
    (am43 : PySem.W.findIn K (.ref C) "_marks_around" = some (some (.ref fm43)))
    (im43 : PySem.W.isFn K (.ref fm43) = true)
    (lm43 : K.lookup fm43 = some ⟨ocm43, odm43, .func (PySem.W.fnOf "_marks_around" "Row._marks_around" (defArgs s_Row__marks_around) (defBody s_Row__marks_around) (defScope s_Row__marks_around) .none kVm43 dcm43 pmm43 anm43 cdm43 ctm43), slm43⟩)
    (cm43 : PySem.W.codeIn K cdm43 "Row._marks_around" = true)
    (km43 : PySem.W.keepIn K (.ref fm43) = true)
    (am48 : PySem.W.findIn K (.ref C) "_stretch_to_spread" = some (some (.ref fm48)))
    (im48 : PySem.W.isFn K (.ref fm48) = true)
    (lm48 : K.lookup fm48 = some ⟨ocm48, odm48, .func (PySem.W.fnOf "_stretch_to_spread" "Row._stretch_to_spread" (defArgs s_Row__stretch_to_spread) (defBody s_Row__stretch_to_spread) (defScope s_Row__stretch_to_spread) .none kVm48 dcm48 pmm48 anm48 cdm48 ctm48), slm48⟩)
    (cm48 : PySem.W.codeIn K cdm48 "Row._stretch_to_spread" = true)
    (km48 : PySem.W.keepIn K (.ref fm48) = true)
    (am53 : PySem.W.findIn K (.ref C) "_spread_marks" = some (some (.ref fm53)))
    (im53 : PySem.W.isFn K (.ref fm53) = true)
    (lm53 : K.lookup fm53 = some ⟨ocm53, odm53, .func (PySem.W.fnOf "_spread_marks" "Row._spread_marks" (defArgs s_Row__spread_marks) (defBody s_Row__spread_marks) (defScope s_Row__spread_marks) .none kVm53 dcm53 pmm53 anm53 cdm53 ctm53), slm53⟩)
    (cm53 : PySem.W.codeIn K cdm53 "Row._spread_marks" = true)
    (km53 : PySem.W.keepIn K (.ref fm53) = true)
    (am58 : PySem.W.findIn K (.ref C) "_lies_in" = some (some (.ref fm58)))
    (im58 : PySem.W.isFn K (.ref fm58) = true)
    (lm58 : K.lookup fm58 = some ⟨ocm58, odm58, .func (PySem.W.fnOf "_lies_in" "Row._lies_in" (defArgs s_Row__lies_in) (defBody s_Row__lies_in) (defScope s_Row__lies_in) .none kVm58 dcm58 pmm58 anm58 cdm58 ctm58), slm58⟩)
    (cm58 : PySem.W.codeIn K cdm58 "Row._lies_in" = true)
    (km58 : PySem.W.keepIn K (.ref fm58) = true)
    (gCF : PySem.W.nsIn K mainGlobals "Full" = some (some (.ref CF)))
    (xCF : PySem.W.excIn K CF [.type "ValueError", .type "Exception", .type "BaseException", .type "object"] "ValueError.__new__" = true)
    (kCF : PySem.W.keepIn K (.ref CF) = true)
    (bCF : PySem.W.subIn K (.ref CF) (.type "BaseException") = some true)
    (tCF : PySem.W.typeIn K (.ref CF) = some (.type "type"))
    (iCF : PySem.W.isClsIn K CF = true)
    (sCF : PySem.W.subIn K (.ref CF) (.ref CF) = some true)
    (a1 : PySem.W.nsIn K mainGlobals "check_within" = some (some (.ref f1)))
    (l1 : K.lookup f1 = some ⟨oc1, od1, .func (PySem.W.fnOf "check_within" "check_within" (defArgs s_check_within) (defBody s_check_within) (defScope s_check_within) .none kV1 dc1 pm1 an1 cd1 ct1), sl1⟩)
    (c1 : PySem.W.codeIn K cd1 "check_within" = true)
    (k1 : PySem.W.keepIn K (.ref f1) = true)
    (a2 : PySem.W.nsIn K mainGlobals "is_too_full" = some (some (.ref f2)))
    (l2 : K.lookup f2 = some ⟨oc2, od2, .func (PySem.W.fnOf "is_too_full" "is_too_full" (defArgs s_is_too_full) (defBody s_is_too_full) (defScope s_is_too_full) .none kV2 dc2 pm2 an2 cd2 ct2), sl2⟩)
    (c2 : PySem.W.codeIn K cd2 "is_too_full" = true)
    (k2 : PySem.W.keepIn K (.ref f2) = true)
    (a3 : PySem.W.nsIn K mainGlobals "stretch_at" = some (some (.ref f3)))
    (l3 : K.lookup f3 = some ⟨oc3, od3, .func (PySem.W.fnOf "stretch_at" "stretch_at" (defArgs s_stretch_at) (defBody s_stretch_at) (defScope s_stretch_at) .none kV3 dc3 pm3 an3 cd3 ct3), sl3⟩)
    (c3 : PySem.W.codeIn K cd3 "stretch_at" = true)
    (k3 : PySem.W.keepIn K (.ref f3) = true)
    (a4 : PySem.W.nsIn K mainGlobals "spread" = some (some (.ref f4)))
    (l4 : K.lookup f4 = some ⟨oc4, od4, .func (PySem.W.fnOf "spread" "spread" (defArgs s_spread) (defBody s_spread) (defScope s_spread) .none kV4 dc4 pm4 an4 cd4 ct4), sl4⟩)
    (c4 : PySem.W.codeIn K cd4 "spread" = true)
    (k4 : PySem.W.keepIn K (.ref f4) = true)
    (a5 : PySem.W.nsIn K mainGlobals "power" = some (some (.ref f5)))
    (l5 : K.lookup f5 = some ⟨oc5, od5, .func (PySem.W.fnOf "power" "power" (defArgs s_power) (defBody s_power) (defScope s_power) .none kV5 dc5 pm5 an5 cd5 ct5), sl5⟩)
    (c5 : PySem.W.codeIn K cd5 "power" = true)
    (k5 : PySem.W.keepIn K (.ref f5) = true)
    (g_MOST_LEVEL : PySem.W.nsIn K mainGlobals "MOST_LEVEL" = some (some (.int 60 t_MOST_LEVEL)))
    (g_MOST_SPREAD : PySem.W.nsIn K mainGlobals "MOST_SPREAD" = some (some (.int 1024 t_MOST_SPREAD)))
    (g_LEAST_WIDE : PySem.W.nsIn K mainGlobals "LEAST_WIDE" = some (some (.int 4 t_LEAST_WIDE)))
    (g_MOST_WIDE : PySem.W.nsIn K mainGlobals "MOST_WIDE" = some (some (.int 60 t_MOST_WIDE)))
    (g_MOST_THINGS : PySem.W.nsIn K mainGlobals "MOST_THINGS" = some (some (.int 200 t_MOST_THINGS)))
    (g_PAID_FOR_EACH_WIDE : PySem.W.nsIn K mainGlobals "PAID_FOR_EACH_WIDE" = some (some (.int 8 t_PAID_FOR_EACH_WIDE)))
    (z_type : PySem.W.nsIn K mainGlobals "type" = some none)
    (z_int : PySem.W.nsIn K mainGlobals "int" = some none)
    (z_len : PySem.W.nsIn K mainGlobals "len" = some none)
    (z_range : PySem.W.nsIn K mainGlobals "range" = some none)
    (z_min : PySem.W.nsIn K mainGlobals "min" = some none)
    (z_max : PySem.W.nsIn K mainGlobals "max" = some none)
    (z_list : PySem.W.nsIn K mainGlobals "list" = some none)
    (z_zip : PySem.W.nsIn K mainGlobals "zip" = some none)
    (gCB : PySem.W.nsIn K mainGlobals "BadWide" = some (some (.ref CB)))
    (xCB : PySem.W.excIn K CB [.type "ValueError", .type "Exception", .type "BaseException", .type "object"] "ValueError.__new__" = true)
    (kCB : PySem.W.keepIn K (.ref CB) = true)
    (bCB : PySem.W.subIn K (.ref CB) (.type "BaseException") = some true)
    (tCB : PySem.W.typeIn K (.ref CB) = some (.type "type"))
    (iCB : PySem.W.isClsIn K CB = true)
    (sCB : PySem.W.subIn K (.ref CB) (.ref CB) = some true)
    (gCN : PySem.W.nsIn K mainGlobals "NoThing" = some (some (.ref CN)))
    (xCN : PySem.W.excIn K CN [.type "ValueError", .type "Exception", .type "BaseException", .type "object"] "ValueError.__new__" = true)
    (kCN : PySem.W.keepIn K (.ref CN) = true)
    (bCN : PySem.W.subIn K (.ref CN) (.type "BaseException") = some true)
    (tCN : PySem.W.typeIn K (.ref CN) = some (.type "type"))
    (iCN : PySem.W.isClsIn K CN = true)
    (sCN : PySem.W.subIn K (.ref CN) (.ref CN) = some true)
    (gCT : PySem.W.nsIn K mainGlobals "TooMany" = some (some (.ref CT)))
    (xCT : PySem.W.excIn K CT [.type "ValueError", .type "Exception", .type "BaseException", .type "object"] "ValueError.__new__" = true)
    (kCT : PySem.W.keepIn K (.ref CT) = true)
    (bCT : PySem.W.subIn K (.ref CT) (.type "BaseException") = some true)
    (tCT : PySem.W.typeIn K (.ref CT) = some (.type "type"))
    (iCT : PySem.W.isClsIn K CT = true)
    (sCT : PySem.W.subIn K (.ref CT) (.ref CT) = some true)
    (am125 : PySem.W.findIn K (.ref C) "mark" = some (some (.ref fm125)))
    (im125 : PySem.W.isFn K (.ref fm125) = true)
    (lm125 : K.lookup fm125 = some ⟨ocm125, odm125, .func (PySem.W.fnOf "mark" "Row.mark" (defArgs s_Row_mark) (defBody s_Row_mark) (defScope s_Row_mark) .none kVm125 dcm125 pmm125 anm125 cdm125 ctm125), slm125⟩)
    (cm125 : PySem.W.codeIn K cdm125 "Row.mark" = true)
    (km125 : PySem.W.keepIn K (.ref fm125) = true)
    (am130 : PySem.W.findIn K (.ref C) "is_ahead" = some (some (.ref fm130)))
    (im130 : PySem.W.isFn K (.ref fm130) = true)
    (lm130 : K.lookup fm130 = some ⟨ocm130, odm130, .func (PySem.W.fnOf "is_ahead" "Row.is_ahead" (defArgs s_Row_is_ahead) (defBody s_Row_is_ahead) (defScope s_Row_is_ahead) .none kVm130 dcm130 pmm130 anm130 cdm130 ctm130), slm130⟩)
    (cm130 : PySem.W.codeIn K cdm130 "Row.is_ahead" = true)
    (km130 : PySem.W.keepIn K (.ref fm130) = true)
    (am135 : PySem.W.findIn K (.ref C) "purse" = some (some (.ref fm135)))
    (im135 : PySem.W.isFn K (.ref fm135) = true)
    (lm135 : K.lookup fm135 = some ⟨ocm135, odm135, .func (PySem.W.fnOf "purse" "Row.purse" (defArgs s_Row_purse) (defBody s_Row_purse) (defScope s_Row_purse) .none kVm135 dcm135 pmm135 anm135 cdm135 ctm135), slm135⟩)
    (cm135 : PySem.W.codeIn K cdm135 "Row.purse" = true)
    (km135 : PySem.W.keepIn K (.ref fm135) = true)
    (gCS : PySem.W.nsIn K mainGlobals "SeatError" = some (some (.ref CS)))
    (eB_0 : PySem.W.findIn K (.ref CB) "__getattribute__" = some (some (.builtin "BaseException.__getattribute__")))
    (eB_1 : PySem.W.findIn K (.ref CB) "__getattr__" = some none)
    (eB_2 : PySem.W.subIn K (.ref CB) (.type "BaseException") = some true)
    (eB_3 : PySem.W.hasDictIn K CB = true)
    (eB_4 : PySem.W.findIn K (.ref CB) "__class__" = some (some (.builtin "object.__class__")))
    (eB_5 : PySem.W.specialIn K (.builtin "object.__class__") "__get__" = some (some (.builtin "getset_descriptor.__get__")))
    (eB_6 : PySem.W.takesIn K (.builtin "object.__class__") = some true)
    (eB_7 : PySem.W.mroIn K CB (.type "object") = some true)
    (eN_0 : PySem.W.findIn K (.ref CN) "__getattribute__" = some (some (.builtin "BaseException.__getattribute__")))
    (eN_1 : PySem.W.findIn K (.ref CN) "__getattr__" = some none)
    (eN_2 : PySem.W.subIn K (.ref CN) (.type "BaseException") = some true)
    (eN_3 : PySem.W.hasDictIn K CN = true)
    (eN_4 : PySem.W.findIn K (.ref CN) "__class__" = some (some (.builtin "object.__class__")))
    (eN_5 : PySem.W.specialIn K (.builtin "object.__class__") "__get__" = some (some (.builtin "getset_descriptor.__get__")))
    (eN_6 : PySem.W.takesIn K (.builtin "object.__class__") = some true)
    (eN_7 : PySem.W.mroIn K CN (.type "object") = some true)
    (eT_0 : PySem.W.findIn K (.ref CT) "__getattribute__" = some (some (.builtin "BaseException.__getattribute__")))
    (eT_1 : PySem.W.findIn K (.ref CT) "__getattr__" = some none)
    (eT_2 : PySem.W.subIn K (.ref CT) (.type "BaseException") = some true)
    (eT_3 : PySem.W.hasDictIn K CT = true)
    (eT_4 : PySem.W.findIn K (.ref CT) "__class__" = some (some (.builtin "object.__class__")))
    (eT_5 : PySem.W.specialIn K (.builtin "object.__class__") "__get__" = some (some (.builtin "getset_descriptor.__get__")))
    (eT_6 : PySem.W.takesIn K (.builtin "object.__class__") = some true)
    (eT_7 : PySem.W.mroIn K CT (.type "object") = some true)
    (b_S : PySem.W.subIn K (.ref CS) (.type "BaseException") = some true)
    (i_S : PySem.W.isClsIn K CS = true)
    (t_S : PySem.W.typeIn K (.ref CS) = some (.type "type"))
    (s_BS : PySem.W.subIn K (.ref CB) (.ref CS) = some true)
    (s_NS : PySem.W.subIn K (.ref CN) (.ref CS) = some true)
    (s_TS : PySem.W.subIn K (.ref CT) (.ref CS) = some true)
    (v_B : PySem.W.subIn K (.ref CB) (.type "ValueError") = some true)
    (v_N : PySem.W.subIn K (.ref CN) (.type "ValueError") = some true)
    (v_T : PySem.W.subIn K (.ref CT) (.type "ValueError") = some true)
    (s_BN : PySem.W.subIn K (.ref CB) (.ref CN) = some false)
    (s_BT : PySem.W.subIn K (.ref CB) (.ref CT) = some false)
    (s_BF : PySem.W.subIn K (.ref CB) (.ref CF) = some false)
    (s_NB : PySem.W.subIn K (.ref CN) (.ref CB) = some false)
    (s_NT : PySem.W.subIn K (.ref CN) (.ref CT) = some false)
    (s_NF : PySem.W.subIn K (.ref CN) (.ref CF) = some false)
    (s_TB : PySem.W.subIn K (.ref CT) (.ref CB) = some false)
    (s_TN : PySem.W.subIn K (.ref CT) (.ref CN) = some false)
    (s_TF : PySem.W.subIn K (.ref CT) (.ref CF) = some false)
    (a6 : PySem.W.nsIn K mainGlobals "_law_next" = some (some (.ref f6)))
    (l6 : K.lookup f6 = some ⟨oc6, od6, .func (PySem.W.fnOf "_law_next" "_law_next" (defArgs s__law_next) (defBody s__law_next) (defScope s__law_next) .none kV6 dc6 pm6 an6 cd6 ct6), sl6⟩)
    (c6 : PySem.W.codeIn K cd6 "_law_next" = true)
    (k6 : PySem.W.keepIn K (.ref f6) = true)
    (a7 : PySem.W.nsIn K mainGlobals "_law_place" = some (some (.ref f7)))
    (l7 : K.lookup f7 = some ⟨oc7, od7, .func (PySem.W.fnOf "_law_place" "_law_place" (defArgs s__law_place) (defBody s__law_place) (defScope s__law_place) .none kV7 dc7 pm7 an7 cd7 ct7), sl7⟩)
    (c7 : PySem.W.codeIn K cd7 "_law_place" = true)
    (k7 : PySem.W.keepIn K (.ref f7) = true)
    (a8 : PySem.W.nsIn K mainGlobals "_law_said" = some (some (.ref f8)))
    (l8 : K.lookup f8 = some ⟨oc8, od8, .func (PySem.W.fnOf "_law_said" "_law_said" (defArgs s__law_said) (defBody s__law_said) (defScope s__law_said) .none kV8 dc8 pm8 an8 cd8 ct8), sl8⟩)
    (c8 : PySem.W.codeIn K cd8 "_law_said" = true)
    (k8 : PySem.W.keepIn K (.ref f8) = true)
    (a9 : PySem.W.nsIn K mainGlobals "_law_odd" = some (some (.ref f9)))
    (l9 : K.lookup f9 = some ⟨oc9, od9, .func (PySem.W.fnOf "_law_odd" "_law_odd" (defArgs s__law_odd) (defBody s__law_odd) (defScope s__law_odd) .none kV9 dc9 pm9 an9 cd9 ct9), sl9⟩)
    (c9 : PySem.W.codeIn K cd9 "_law_odd" = true)
    (k9 : PySem.W.keepIn K (.ref f9) = true)
    (a10 : PySem.W.nsIn K mainGlobals "_law_numbers_refused" = some (some (.ref f10)))
    (l10 : K.lookup f10 = some ⟨oc10, od10, .func (PySem.W.fnOf "_law_numbers_refused" "_law_numbers_refused" (defArgs s__law_numbers_refused) (defBody s__law_numbers_refused) (defScope s__law_numbers_refused) .none kV10 dc10 pm10 an10 (.ref cc1) ct10), sl10⟩)
    (c10 : PySem.W.codeIn K (.ref cc1) "_law_numbers_refused" = true)
    (k10 : PySem.W.keepIn K (.ref f10) = true)
    (a11 : PySem.W.nsIn K mainGlobals "_law_things_refused" = some (some (.ref f11)))
    (l11 : K.lookup f11 = some ⟨oc11, od11, .func (PySem.W.fnOf "_law_things_refused" "_law_things_refused" (defArgs s__law_things_refused) (defBody s__law_things_refused) (defScope s__law_things_refused) .none kV11 dc11 pm11 an11 (.ref cc2) ct11), sl11⟩)
    (c11 : PySem.W.codeIn K (.ref cc2) "_law_things_refused" = true)
    (k11 : PySem.W.keepIn K (.ref f11) = true)
    (z_isinstance : PySem.W.nsIn K mainGlobals "isinstance" = some none)
    (z_ValueError : PySem.W.nsIn K mainGlobals "ValueError" = some none)
    (aL : PySem.W.nsIn K mainGlobals "law" = some (some (.ref fL)))
    (lL : K.lookup fL = some ⟨ocL, odL, .func (PySem.W.fnOf "law" "law" (defArgs s_law) (defBody s_law) (defScope s_law) .none kVL dcL pmL anL (.ref cc3) ctL), slL⟩)
    (cL : PySem.W.codeIn K (.ref cc3) "law" = true)
    (kL : PySem.W.keepIn K (.ref fL) = true)
    (tt1 : h.get? P1 = some { cls := .none, data := .fields #[] })
    (nn1 : K.lookup P1 = none)
    (hh1 : PySem.W.codeHdIn K cc1 P1 = true)
    (tt2 : h.get? P2 = some { cls := .none, data := .fields #[] })
    (nn2 : K.lookup P2 = none)
    (hh2 : PySem.W.codeHdIn K cc2 P2 = true)
    (tt3 : h.get? P3 = some { cls := .none, data := .fields #[] })
    (nn3 : K.lookup P3 = none)
    (hh3 : PySem.W.codeHdIn K cc3 P3 = true)
    (A3 : Apart3 P1 P2 P3)
    : ∃ (fd : FuncData) (cc1 cc2 cc3 P1 P2 P3 : Addr), (∀ p ∈ [(cc1, P1), (cc2, P2), (cc3, P3)], h.get? p.2 = some { cls := .none, data := .fields #[] }) ∧ (∀ p ∈ [(cc1, P1), (cc2, P2), (cc3, P3)], K.lookup p.2 = none) ∧ (∀ p ∈ [(cc1, P1), (cc2, P2), (cc3, P3)], PySem.W.CodeHd h p.1 p.2) ∧ (∀ (s : Shared) (v : Value), BindsTo s fd ⟨[v], []⟩ [("_law_script", v)]) ∧ ∀ base : Heap, K.In base → base.Ns mainGlobals mg → (∀ p ∈ [(cc1, P1), (cc2, P2), (cc3, P3)], LamX.TabB base mg p.1 p.2) → FnOk l.prog w K mg base CX0 7 fa fd ["_law_script"] (spLawT K P1 P2 P3) := by
  have e := hfa.symm.trans (PySem.W.mg_of X G aL)
  cases e
  have T : Txt K mg C CF CB CN CT CS cc1 cc2 := {
    cl := ⟨pg, hd, po, sa⟩,
    nW := nW,
    nO := nO,
    nM := nM,
    nG := nG,
    nP := nP,
    gRow := PySem.W.mg_of X G aC,
    mkRow := ⟨_, _, ⟨mkC, aI, iI, kpC⟩, fun_mk (st := s_Row___init__) lI cI kI, (fun_mk (st := s_Row___init__) lI cI kI).binds (ps := ["self", "wide"]) fun _ _ _ _ _ _ us hl => (match us, hl with | [_, _], _ => rfl)⟩,
    m_put := mdd_of aP iP lP cP kP lT (fun _ _ _ _ _ _ _ us its h1 h2 => (match us, h1, its, h2 with | [_], _, [_], _ => ⟨_, rfl, rfl⟩)) (fun _ _ _ _ _ _ _ us its h1 h2 => (match us, h1, its, h2 with | [_, _], _, [_], _ => ⟨_, rfl, rfl⟩)),
    m_take := ⟨_, _, _, fun_mk (st := s_Row_take) lm23 cm23 km23, ⟨am23, im23, km23⟩, (fun_mk (st := s_Row_take) lm23 cm23 km23).binds (ps := ["self", "one"]) fun _ _ _ _ _ _ us hl => (match us, hl with | [_, _], _ => rfl), .nil⟩,
    m_things := ⟨_, _, _, fun_mk (st := s_Row_things) lm28 cm28 km28, ⟨am28, im28, km28⟩, (fun_mk (st := s_Row_things) lm28 cm28 km28).binds (ps := ["self"]) fun _ _ _ _ _ _ us hl => (match us, hl with | [_], _ => rfl), .nil⟩,
    m__check_thing := ⟨_, _, _, fun_mk (st := s_Row__check_thing) lm33 cm33 km33, ⟨am33, im33, km33⟩, (fun_mk (st := s_Row__check_thing) lm33 cm33 km33).binds (ps := ["self", "one"]) fun _ _ _ _ _ _ us hl => (match us, hl with | [_, _], _ => rfl), .nil⟩,
    m__place_behind := ⟨_, _, _, fun_mk (st := s_Row__place_behind) lm38 cm38 km38, ⟨am38, im38, km38⟩, (fun_mk (st := s_Row__place_behind) lm38 cm38 km38).binds (ps := ["self", "one"]) fun _ _ _ _ _ _ us hl => (match us, hl with | [_, _], _ => rfl), .nil⟩,
    m__marks_around := ⟨_, _, _, fun_mk (st := s_Row__marks_around) lm43 cm43 km43, ⟨am43, im43, km43⟩, (fun_mk (st := s_Row__marks_around) lm43 cm43 km43).binds (ps := ["self", "place"]) fun _ _ _ _ _ _ us hl => (match us, hl with | [_, _], _ => rfl), .nil⟩,
    m__stretch_to_spread := ⟨_, _, _, fun_mk (st := s_Row__stretch_to_spread) lm48 cm48 km48, ⟨am48, im48, km48⟩, (fun_mk (st := s_Row__stretch_to_spread) lm48 cm48 km48).binds (ps := ["self", "mark"]) fun _ _ _ _ _ _ us hl => (match us, hl with | [_, _], _ => rfl), .nil⟩,
    m__spread_marks := ⟨_, _, _, fun_mk (st := s_Row__spread_marks) lm53 cm53 km53, ⟨am53, im53, km53⟩, (fun_mk (st := s_Row__spread_marks) lm53 cm53 km53).binds (ps := ["self", "stretch", "order", "number"]) fun _ _ _ _ _ _ us hl => (match us, hl with | [_, _, _, _], _ => rfl), .nil⟩,
    m__lies_in := ⟨_, _, _, fun_mk (st := s_Row__lies_in) lm58 cm58 km58, ⟨am58, im58, km58⟩, (fun_mk (st := s_Row__lies_in) lm58 cm58 km58).binds (ps := ["self", "thing", "level", "first"]) fun _ _ _ _ _ _ us hl => (match us, hl with | [_, _, _, _], _ => rfl), .nil⟩,
    full := ⟨PySem.W.mg_of X G gCF, xCF, kCF, bCF, tCF, iCF, sCF⟩,
    d_check_within := ⟨_, _, fun_mk (st := s_check_within) l1 c1 k1, PySem.W.mg_of X G a1, (fun_mk (st := s_check_within) l1 c1 k1).binds (ps := ["value", "least", "most"]) fun _ _ _ _ _ _ us hl => match us, hl with | [_, _, _], _ => rfl⟩,
    d_is_too_full := ⟨_, _, fun_mk (st := s_is_too_full) l2 c2 k2, PySem.W.mg_of X G a2, (fun_mk (st := s_is_too_full) l2 c2 k2).binds (ps := ["level", "many"]) fun _ _ _ _ _ _ us hl => match us, hl with | [_, _], _ => rfl⟩,
    d_stretch_at := ⟨_, _, fun_mk (st := s_stretch_at) l3 c3 k3, PySem.W.mg_of X G a3, (fun_mk (st := s_stretch_at) l3 c3 k3).binds (ps := ["level", "mark"]) fun _ _ _ _ _ _ us hl => match us, hl with | [_, _], _ => rfl⟩,
    d_spread := ⟨_, _, fun_mk (st := s_spread) l4 c4 k4, PySem.W.mg_of X G a4, (fun_mk (st := s_spread) l4 c4 k4).binds (ps := ["level", "start", "many"]) fun _ _ _ _ _ _ us hl => match us, hl with | [_, _, _], _ => rfl⟩,
    d_power := ⟨_, _, fun_mk (st := s_power) l5 c5 k5, PySem.W.mg_of X G a5, (fun_mk (st := s_power) l5 c5 k5).binds (ps := ["base", "times"]) fun _ _ _ _ _ _ us hl => match us, hl with | [_, _], _ => rfl⟩,
    g_MOST_LEVEL := ⟨_, PySem.W.mg_of X G g_MOST_LEVEL, ⟨_, rfl⟩⟩,
    g_MOST_SPREAD := ⟨_, PySem.W.mg_of X G g_MOST_SPREAD, ⟨_, rfl⟩⟩,
    g_LEAST_WIDE := ⟨_, PySem.W.mg_of X G g_LEAST_WIDE, ⟨_, rfl⟩⟩,
    g_MOST_WIDE := ⟨_, PySem.W.mg_of X G g_MOST_WIDE, ⟨_, rfl⟩⟩,
    g_MOST_THINGS := ⟨_, PySem.W.mg_of X G g_MOST_THINGS, ⟨_, rfl⟩⟩,
    g_PAID_FOR_EACH_WIDE := ⟨_, PySem.W.mg_of X G g_PAID_FOR_EACH_WIDE, ⟨_, rfl⟩⟩,
    n_type := PySem.W.mg_none_of X G z_type,
    n_int := PySem.W.mg_none_of X G z_int,
    n_len := PySem.W.mg_none_of X G z_len,
    n_range := PySem.W.mg_none_of X G z_range,
    n_min := PySem.W.mg_none_of X G z_min,
    n_max := PySem.W.mg_none_of X G z_max,
    n_list := PySem.W.mg_none_of X G z_list,
    n_zip := PySem.W.mg_none_of X G z_zip,
    bad := ⟨PySem.W.mg_of X G gCB, xCB, kCB, bCB, tCB, iCB, sCB⟩,
    nothing := ⟨PySem.W.mg_of X G gCN, xCN, kCN, bCN, tCN, iCN, sCN⟩,
    many := ⟨PySem.W.mg_of X G gCT, xCT, kCT, bCT, tCT, iCT, sCT⟩,
    m_mark := ⟨_, _, _, fun_mk (st := s_Row_mark) lm125 cm125 km125, ⟨am125, im125, km125⟩, (fun_mk (st := s_Row_mark) lm125 cm125 km125).binds (ps := ["self", "one"]) fun _ _ _ _ _ _ us hl => (match us, hl with | [_, _], _ => rfl), .nil⟩,
    m_is_ahead := ⟨_, _, _, fun_mk (st := s_Row_is_ahead) lm130 cm130 km130, ⟨am130, im130, km130⟩, (fun_mk (st := s_Row_is_ahead) lm130 cm130 km130).binds (ps := ["self", "one", "other"]) fun _ _ _ _ _ _ us hl => (match us, hl with | [_, _, _], _ => rfl), .nil⟩,
    m_purse := ⟨_, _, _, fun_mk (st := s_Row_purse) lm135 cm135 km135, ⟨am135, im135, km135⟩, (fun_mk (st := s_Row_purse) lm135 cm135 km135).binds (ps := ["self"]) fun _ _ _ _ _ _ us hl => (match us, hl with | [_], _ => rfl), .nil⟩,
    g_SeatError := PySem.W.mg_of X G gCS,
    eB := ⟨eB_0, eB_1, eB_2, eB_3, eB_4, eB_5, eB_6, eB_7⟩,
    eN := ⟨eN_0, eN_1, eN_2, eN_3, eN_4, eN_5, eN_6, eN_7⟩,
    eT := ⟨eT_0, eT_1, eT_2, eT_3, eT_4, eT_5, eT_6, eT_7⟩,
    b_S := b_S,
    i_S := i_S,
    t_S := t_S,
    s_BS := s_BS,
    s_NS := s_NS,
    s_TS := s_TS,
    v_B := v_B,
    v_N := v_N,
    v_T := v_T,
    s_BN := s_BN,
    s_BT := s_BT,
    s_BF := s_BF,
    s_NB := s_NB,
    s_NT := s_NT,
    s_NF := s_NF,
    s_TB := s_TB,
    s_TN := s_TN,
    s_TF := s_TF,
    d__law_next := ⟨_, _, fun_mk (st := s__law_next) l6 c6 k6, PySem.W.mg_of X G a6, (fun_mk (st := s__law_next) l6 c6 k6).binds (ps := ["_law_state"]) fun _ _ _ _ _ _ us hl => match us, hl with | [_], _ => rfl⟩,
    d__law_place := ⟨_, _, fun_mk (st := s__law_place) l7 c7 k7, PySem.W.mg_of X G a7, (fun_mk (st := s__law_place) l7 c7 k7).binds (ps := ["_law_state", "_law_m"]) fun _ _ _ _ _ _ us hl => match us, hl with | [_, _], _ => rfl⟩,
    d__law_said := ⟨_, _, fun_mk (st := s__law_said) l8 c8 k8, PySem.W.mg_of X G a8, (fun_mk (st := s__law_said) l8 c8 k8).binds (ps := ["_law_worker"]) fun _ _ _ _ _ _ us hl => match us, hl with | [_], _ => rfl⟩,
    d__law_odd := ⟨_, _, fun_mk (st := s__law_odd) l9 c9 k9, PySem.W.mg_of X G a9, (fun_mk (st := s__law_odd) l9 c9 k9).binds (ps := ["_law_n"]) fun _ _ _ _ _ _ us hl => match us, hl with | [_], _ => rfl⟩,
    d__law_numbers_refused := ⟨_, _, _, _, _, _, _, _, _, l10, c10, k10, PySem.W.mg_of X G a10, L2.Binds.all fun us hl => (match us, hl with | [_], _ => rfl)⟩,
    d__law_things_refused := ⟨_, _, _, _, _, _, _, _, _, l11, c11, k11, PySem.W.mg_of X G a11, L2.Binds.all fun us hl => (match us, hl with | [_, _, _], _ => rfl)⟩,
    n_isinstance := PySem.W.mg_none_of X G z_isinstance,
    n_ValueError := PySem.W.mg_none_of X G z_ValueError }
  refine ⟨PySem.W.fnOf "law" "law" (defArgs s_law) (defBody s_law) (defScope s_law) .none kVL dcL pmL anL (.ref cc3) ctL, cc1, cc2, cc3, P1, P2, P3, all3 tt1 tt2 tt3, all3 nn1 nn2 nn3, all3 (PySem.W.codeHd_of_K X hh1) (PySem.W.codeHd_of_K X hh2) (PySem.W.codeHd_of_K X hh3), fun s v => .of_eq rfl, fun base _ _ hB => ok_all T A3 (hB _ (List.mem_cons_self ..)) (hB _ (List.mem_cons_of_mem _ (List.mem_cons_self ..))) (hB _ (List.mem_cons_of_mem _ (List.mem_cons_of_mem _ (List.mem_cons_self ..)))) lL cL⟩
theorem walk {l : PySem.W.OpenLaw} {q : Program} {loose : List Str} {XP : (Str → Option Value) → Heap → Prop} {YP : World → Heap → Prop} {d : DefRec} {K : Params → PySem.W.Frag} (hn : l.most = some 63) (hdf : d.params.defaults = [])
    (hY : ∀ (w : World) (h : Heap), YP w h → (K w.params).In h)
    (F : ∀ (w : World) (mg : Str → Option Value) (fa : Addr) (h : Heap), YP w h → (K w.params).In h → h.Ns mainGlobals mg → mg d.name = some (.ref fa) → ∃ (fd : FuncData) (cc1 cc2 cc3 P1 P2 P3 : Addr), (∀ p ∈ [(cc1, P1), (cc2, P2), (cc3, P3)], h.get? p.2 = some { cls := .none, data := .fields #[] }) ∧ (∀ p ∈ [(cc1, P1), (cc2, P2), (cc3, P3)], (K w.params).lookup p.2 = none) ∧ (∀ p ∈ [(cc1, P1), (cc2, P2), (cc3, P3)], PySem.W.CodeHd h p.1 p.2) ∧ (∀ (s : Shared) (v : Value), BindsTo s fd ⟨[v], []⟩ [("_law_script", v)]) ∧ ∀ base : Heap, (K w.params).In base → base.Ns mainGlobals mg → (∀ p ∈ [(cc1, P1), (cc2, P2), (cc3, P3)], LamX.TabB base mg p.1 p.2) → FnOk l.prog w (K w.params) mg base CX0 7 fa fd ["_law_script"] (spLawT (K w.params) P1 P2 P3)) :
    PySem.W.WalkO q loose XP YP l.row.toRowW d [] (fun f vs => PySem.call f vs) :=
  LamX.walk_ofTs (n := 63) (k := 7) (x := "_law_script") (CX := fun _ => CX0) hn (by decide) hdf ⟨rfl, by decide, by decide⟩ hY (fun w mg fa h Y KX G hmg => by
    obtain ⟨fd, cc1, cc2, cc3, P1, P2, P3, ht, hn, hc, hb, hF⟩ := F w mg fa h Y KX G hmg
    exact ⟨fd, [(cc1, P1), (cc2, P2), (cc3, P3)], spLawT _ P1 P2 P3, ht, hn, hc, hb, fun H a ns hl _ hH hS => ⟨a, ns, rfl, hS, hl, hH _ (List.mem_cons_self ..), hH _ (List.mem_cons_of_mem _ (List.mem_cons_self ..)), hH _ (List.mem_cons_of_mem _ (List.mem_cons_of_mem _ (List.mem_cons_self ..))), fun _ => rfl⟩, hF⟩) fun _ _ _ _ _ z => z
end Seat
open PySem PySem.W PyProof.Rows in
set_option maxRecDepth 100000 in
set_option maxHeartbeats 0 in
theorem PySem.Challenge.cw_seatmarks_k03_refused_holds : PySem.Challenge.rw_seatmarks_k03_refused.Holds := by
  w_on; o_law; k_head; (case hw => w_witness2)
  k_fill
  refine Seat.walk (l := PySem.Challenge.rw_seatmarks_k03_refused) rfl rfl (fun w h Y => PySem.W.km_in_of Y) ?F
  case F =>
    intro w mg fa h Y KX G hmg
    have TS := PySem.W.km_tabs_of Y
    refine' Seat.all_mk (P1 := 245) (P2 := 252) (P3 := 259) KX G hmg ?aC ?pg ?hd ?po ?sa ?nW ?nO ?nM ?nG ?nP ?aI ?iI ?lI ?cI ?kI ?mkC ?kpC ?aP ?iP ?lP ?cP ?kP ?lT ?am23 ?im23 ?lm23 ?cm23 ?km23 ?am28 ?im28 ?lm28 ?cm28 ?km28 ?am33 ?im33 ?lm33 ?cm33 ?km33 ?am38 ?im38 ?lm38 ?cm38 ?km38 ?am43 ?im43 ?lm43 ?cm43 ?km43 ?am48 ?im48 ?lm48 ?cm48 ?km48 ?am53 ?im53 ?lm53 ?cm53 ?km53 ?am58 ?im58 ?lm58 ?cm58 ?km58 ?gCF ?xCF ?kCF ?bCF ?tCF ?iCF ?sCF ?a1 ?l1 ?c1 ?k1 ?a2 ?l2 ?c2 ?k2 ?a3 ?l3 ?c3 ?k3 ?a4 ?l4 ?c4 ?k4 ?a5 ?l5 ?c5 ?k5 ?g_MOST_LEVEL ?g_MOST_SPREAD ?g_LEAST_WIDE ?g_MOST_WIDE ?g_MOST_THINGS ?g_PAID_FOR_EACH_WIDE ?z_type ?z_int ?z_len ?z_range ?z_min ?z_max ?z_list ?z_zip ?gCB ?xCB ?kCB ?bCB ?tCB ?iCB ?sCB ?gCN ?xCN ?kCN ?bCN ?tCN ?iCN ?sCN ?gCT ?xCT ?kCT ?bCT ?tCT ?iCT ?sCT ?am125 ?im125 ?lm125 ?cm125 ?km125 ?am130 ?im130 ?lm130 ?cm130 ?km130 ?am135 ?im135 ?lm135 ?cm135 ?km135 ?gCS ?eB_0 ?eB_1 ?eB_2 ?eB_3 ?eB_4 ?eB_5 ?eB_6 ?eB_7 ?eN_0 ?eN_1 ?eN_2 ?eN_3 ?eN_4 ?eN_5 ?eN_6 ?eN_7 ?eT_0 ?eT_1 ?eT_2 ?eT_3 ?eT_4 ?eT_5 ?eT_6 ?eT_7 ?b_S ?i_S ?t_S ?s_BS ?s_NS ?s_TS ?v_B ?v_N ?v_T ?s_BN ?s_BT ?s_BF ?s_NB ?s_NT ?s_NF ?s_TB ?s_TN ?s_TF ?a6 ?l6 ?c6 ?k6 ?a7 ?l7 ?c7 ?k7 ?a8 ?l8 ?c8 ?k8 ?a9 ?l9 ?c9 ?k9 ?a10 ?l10 ?c10 ?k10 ?a11 ?l11 ?c11 ?k11 ?z_isinstance ?z_ValueError ?aL ?lL ?cL ?kL ?tt1 ?nn1 ?hh1 ?tt2 ?nn2 ?hh2 ?tt3 ?nn3 ?hh3 ?A3
    (case aC => k_is)
    (case pg => k_is)
    (case hd => k_is)
    (case po => k_is)
    (case sa => k_is)
    (case nW => k_is)
    (case nO => k_is)
    (case nM => k_is)
    (case nG => k_is)
    (case nP => k_is)
    (case aI => k_is)
    (case iI => k_is)
    (case lI => k_is)
    (case cI => k_is)
    (case kI => k_is)
    (case mkC => k_is)
    (case kpC => k_is)
    (case aP => k_is)
    (case iP => k_is)
    (case lP => k_is)
    (case cP => k_is)
    (case kP => k_is)
    (case lT => k_is)
    (case am23 => k_is)
    (case im23 => k_is)
    (case lm23 => k_is)
    (case cm23 => k_is)
    (case km23 => k_is)
    (case am28 => k_is)
    (case im28 => k_is)
    (case lm28 => k_is)
    (case cm28 => k_is)
    (case km28 => k_is)
    (case am33 => k_is)
    (case im33 => k_is)
    (case lm33 => k_is)
    (case cm33 => k_is)
    (case km33 => k_is)
    (case am38 => k_is)
    (case im38 => k_is)
    (case lm38 => k_is)
    (case cm38 => k_is)
    (case km38 => k_is)
    (case am43 => k_is)
    (case im43 => k_is)
    (case lm43 => k_is)
    (case cm43 => k_is)
    (case km43 => k_is)
    (case am48 => k_is)
    (case im48 => k_is)
    (case lm48 => k_is)
    (case cm48 => k_is)
    (case km48 => k_is)
    (case am53 => k_is)
    (case im53 => k_is)
    (case lm53 => k_is)
    (case cm53 => k_is)
    (case km53 => k_is)
    (case am58 => k_is)
    (case im58 => k_is)
    (case lm58 => k_is)
    (case cm58 => k_is)
    (case km58 => k_is)
    (case gCF => k_is)
    (case xCF => k_exc)
    (case kCF => k_is)
    (case bCF => k_is)
    (case tCF => k_is)
    (case iCF => k_is)
    (case sCF => first | rfl | k_is)
    (case a1 => k_is)
    (case l1 => k_is)
    (case c1 => k_is)
    (case k1 => k_is)
    (case a2 => k_is)
    (case l2 => k_is)
    (case c2 => k_is)
    (case k2 => k_is)
    (case a3 => k_is)
    (case l3 => k_is)
    (case c3 => k_is)
    (case k3 => k_is)
    (case a4 => k_is)
    (case l4 => k_is)
    (case c4 => k_is)
    (case k4 => k_is)
    (case a5 => k_is)
    (case l5 => k_is)
    (case c5 => k_is)
    (case k5 => k_is)
    (case g_MOST_LEVEL => k_is)
    (case g_MOST_SPREAD => k_is)
    (case g_LEAST_WIDE => k_is)
    (case g_MOST_WIDE => k_is)
    (case g_MOST_THINGS => k_is)
    (case g_PAID_FOR_EACH_WIDE => k_is)
    (case z_type => k_is)
    (case z_int => k_is)
    (case z_len => k_is)
    (case z_range => k_is)
    (case z_min => k_is)
    (case z_max => k_is)
    (case z_list => k_is)
    (case z_zip => k_is)
    (case gCB => k_is)
    (case xCB => k_exc)
    (case kCB => k_is)
    (case bCB => k_is)
    (case tCB => k_is)
    (case iCB => k_is)
    (case sCB => first | rfl | k_is)
    (case gCN => k_is)
    (case xCN => k_exc)
    (case kCN => k_is)
    (case bCN => k_is)
    (case tCN => k_is)
    (case iCN => k_is)
    (case sCN => first | rfl | k_is)
    (case gCT => k_is)
    (case xCT => k_exc)
    (case kCT => k_is)
    (case bCT => k_is)
    (case tCT => k_is)
    (case iCT => k_is)
    (case sCT => first | rfl | k_is)
    (case am125 => k_is)
    (case im125 => k_is)
    (case lm125 => k_is)
    (case cm125 => k_is)
    (case km125 => k_is)
    (case am130 => k_is)
    (case im130 => k_is)
    (case lm130 => k_is)
    (case cm130 => k_is)
    (case km130 => k_is)
    (case am135 => k_is)
    (case im135 => k_is)
    (case lm135 => k_is)
    (case cm135 => k_is)
    (case km135 => k_is)
    (case gCS => k_is)
    (case eB_0 => k_is)
    (case eB_1 => k_is)
    (case eB_2 => k_is)
    (case eB_3 => k_is)
    (case eB_4 => k_is)
    (case eB_5 => k_is)
    (case eB_6 => k_is)
    (case eB_7 => k_is)
    (case eN_0 => k_is)
    (case eN_1 => k_is)
    (case eN_2 => k_is)
    (case eN_3 => k_is)
    (case eN_4 => k_is)
    (case eN_5 => k_is)
    (case eN_6 => k_is)
    (case eN_7 => k_is)
    (case eT_0 => k_is)
    (case eT_1 => k_is)
    (case eT_2 => k_is)
    (case eT_3 => k_is)
    (case eT_4 => k_is)
    (case eT_5 => k_is)
    (case eT_6 => k_is)
    (case eT_7 => k_is)
    (case b_S => k_is)
    (case i_S => k_is)
    (case t_S => k_is)
    (case s_BS => k_is)
    (case s_NS => k_is)
    (case s_TS => k_is)
    (case v_B => k_is)
    (case v_N => k_is)
    (case v_T => k_is)
    (case s_BN => k_is)
    (case s_BT => k_is)
    (case s_BF => k_is)
    (case s_NB => k_is)
    (case s_NT => k_is)
    (case s_NF => k_is)
    (case s_TB => k_is)
    (case s_TN => k_is)
    (case s_TF => k_is)
    (case a6 => k_is)
    (case l6 => k_is)
    (case c6 => k_is)
    (case k6 => k_is)
    (case a7 => k_is)
    (case l7 => k_is)
    (case c7 => k_is)
    (case k7 => k_is)
    (case a8 => k_is)
    (case l8 => k_is)
    (case c8 => k_is)
    (case k8 => k_is)
    (case a9 => k_is)
    (case l9 => k_is)
    (case c9 => k_is)
    (case k9 => k_is)
    (case a10 => k_is)
    (case l10 => k_is)
    (case c10 => k_is)
    (case k10 => k_is)
    (case a11 => k_is)
    (case l11 => k_is)
    (case c11 => k_is)
    (case k11 => k_is)
    (case z_isinstance => k_is)
    (case z_ValueError => k_is)
    (case aL => k_is)
    (case lL => k_is)
    (case cL => k_is)
    (case kL => k_is)
    (case tt1 => exact TS _ (by decide))
    (case nn1 => kernel_rfl)
    (case hh1 => kernel_rfl)
    (case tt2 => exact TS _ (by decide))
    (case nn2 => kernel_rfl)
    (case hh2 => kernel_rfl)
    (case tt3 => exact TS _ (by decide))
    (case nn3 => kernel_rfl)
    (case hh3 => kernel_rfl)
    (case A3 => exact ⟨by decide, by decide, by decide⟩)
