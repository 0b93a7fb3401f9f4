import PyProof.Rows.All
import Wide.All
import OpenK.AllK
import Wide.FinOn
import HandS.ForMost
import HandS.Wide
import HandS.IsInst
import HandS.SetFor
import HandS.More
import HandS.Codes
import HandS.ForExc
import HandS.Zip
import HandS.Style
import HandS.Walk
import HandS.ListItems
import KE.KDictZip
import PySem.Challenge.RW_seatmarks_k01_stretches
set_option Elab.async false
set_option linter.all false
set_option maxRecDepth 100000
set_option maxHeartbeats 4000000
namespace Seat
open PySem L2
open C8 (Cal Met Mak pe_c pe_mk pe_mt pe_mt0 pe_gc pss_cut)

def top (i : Nat) : Stmt := PySem.Challenge.pw_seatmarks_k01_stretches.main.body.getD i (.Pass ⟨0, 0, 0, 0⟩)
abbrev s_check_within : Stmt := top 4
theorem sc_check_within : FnScope ["value", "least", "most"] ["value", "least", "most"] (defScope s_check_within) := ⟨rfl, rfl, rfl, by decide +kernel, rfl, by decide +kernel, by decide +kernel⟩
abbrev s_is_too_full : Stmt := top 8
theorem sc_is_too_full : FnScope ["level", "many"] ["level", "many"] (defScope s_is_too_full) := ⟨rfl, rfl, rfl, by decide +kernel, rfl, by decide +kernel, by decide +kernel⟩
abbrev s_stretch_at : Stmt := top 9
theorem sc_stretch_at : FnScope ["level", "mark", "size"] ["level", "mark"] (defScope s_stretch_at) := ⟨rfl, rfl, rfl, by decide +kernel, rfl, by decide +kernel, by decide +kernel⟩
abbrev s_spread : Stmt := top 10
theorem sc_spread : FnScope ["level", "start", "many", "size", "place"] ["level", "start", "many"] (defScope s_spread) := ⟨rfl, rfl, rfl, by decide +kernel, rfl, by decide +kernel, by decide +kernel⟩
abbrev s_power : Stmt := top 11
theorem sc_power : FnScope ["base", "times", "found", "_"] ["base", "times"] (defScope s_power) := ⟨rfl, rfl, rfl, by decide +kernel, rfl, by decide +kernel, by decide +kernel⟩
abbrev s__law_next : Stmt := top 13
theorem sc__law_next : FnScope ["_law_state", "_law_k", "_law_cells", "_law_base"] ["_law_state"] (defScope s__law_next) := ⟨rfl, rfl, rfl, by decide +kernel, rfl, by decide +kernel, by decide +kernel⟩
abbrev s__law_too_many : Stmt := top 14
theorem sc__law_too_many : FnScope ["_law_level", "_law_many", "_law_room", "_law_turn"] ["_law_level", "_law_many"] (defScope s__law_too_many) := ⟨rfl, rfl, rfl, by decide +kernel, rfl, by decide +kernel, by decide +kernel⟩
abbrev s__law_whole : Stmt := top 15
theorem sc__law_whole : FnScope ["_law_thing"] ["_law_thing"] (defScope s__law_whole) := ⟨rfl, rfl, rfl, by decide +kernel, rfl, by decide +kernel, by decide +kernel⟩
abbrev s__law_spread_right : Stmt := top 16
theorem sc__law_spread_right : FnScope ["_law_level", "_law_start", "_law_many", "_law_size", "_law_found", "_law_mark", "_law_place", "_law_exact", "_law_kept"] ["_law_level", "_law_start", "_law_many"] (defScope s__law_spread_right) := ⟨rfl, rfl, rfl, by decide +kernel, rfl, by decide +kernel, by decide +kernel⟩
abbrev s_law : Stmt := top 17
theorem sc_law : FnScope ["_law_script", "_law_state", "_law_cell", "_law_n", "_law_level", "_law_most", "_law_any_one", "_law_many", "_law_found", "_law_start", "_law_first"] ["_law_script"] (defScope s_law) := ⟨rfl, rfl, rfl, by decide +kernel, rfl, by decide +kernel, by decide +kernel⟩
/-! ### how a def of the top, a method, a constant stand -/
structure Df (K : PySem.W.Frag) (mg : Str → Option Value) (x : Str) (st : Stmt) (ps : List Str) : Prop where
  ex : ∃ (f : Addr) (fd : FuncData), Fun K x x st f fd ∧ mg x = some (.ref f) ∧ Binds K fd ps []
structure Md (K : PySem.W.Frag) (C : Addr) (m qual : Str) (st : Stmt) (ps : List Str) (dvs : List V) : Prop where
  ex : ∃ (f : Addr) (fd : FuncData) (ds : List Value), Fun K m qual st f fd ∧ Meth K C m f ∧ Binds K fd ps ds ∧ Vals dvs ds
def Kn (mg : Str → Option Value) (x : Str) (v : V) : Prop := ∃ u, mg x = some u ∧ RelV v u
/-! ### steps of a reading -/
theorem iteTd {c A B : Prop} [Decidable c] (hc : c) (h : A) : if decide c = true then A else B := by
  rw [decide_eq_true hc]; exact iteT h
theorem iteFd {c A B : Prop} [Decidable c] (hc : ¬ c) (h : B) : if decide c = true then A else B := by
  rw [decide_eq_false hc]; exact iteF h
theorem iteNT {c A B : Prop} [Decidable c] (hc : ¬ c) (h : A) : if (!decide c) = true then A else B := by
  rw [decide_eq_false hc]; exact iteT h
theorem ite2d {c A B : Prop} [Decidable c] (h1 : c → A) (h2 : ¬ c → B) : if decide c = true then A else B := by
  by_cases h : c
  · exact iteTd h (h1 h)
  · exact iteFd h (h2 h)
theorem iteOf {b : Bool} {A B : Prop} (h1 : b = true → A) (h2 : b = false → B) : if b = true then A else B := by
  cases b with
  | true => exact iteT (h1 rfl)
  | false => exact iteF (h2 rfl)
theorem iteEqT {b : Bool} {A B : Prop} (hb : b = true) (h : A) : if b = true then A else B := by rw [hb]; exact iteT h
theorem iteEqF {b : Bool} {A B : Prop} (hb : b = false) (h : B) : if b = true then A else B := by rw [hb]; exact iteF h
/-- a new object leaves all as it was -/
theorem same_new {H : Hp} {p : Addr} {o : HO} (h : H p = none) : Same H (upd H p o) := fun b x e => by
  rw [upd_ne (ne_of_none e h)]
  exact e
theorem small {n : Nat} (h : n ≤ 100000) : n ≤ sizeLine := Nat.le_trans h (by decide)
theorem smallL {n : Nat} (h : n ≤ 100000) : n < sizeLine := Nat.lt_of_le_of_lt h (by decide)

/-! ### rules of our own -/
section
variable {X : Cx}
/-- list + list, each tracked, locked or written -/
def rCatS (K : PySem.W.Frag) : R2 := fun x y H Q => ∃ l b xs zs, x = .ref l ∧ y = .ref b ∧ SqL K H l xs ∧ SqL K H b zs ∧ xs.length + zs.length ≤ sizeLine ∧ ∀ p, H p = none → Q (.ref p) (upd H p (.lst (xs ++ zs)))
theorem op_catS : OpR X (binaryOp .Add) (rCatS X.K) := by
  intro pins s σ H x y v u Q I rx ry h
  obtain ⟨l, b, xs, zs, rfl, rfl, hH, hB, hz, q⟩ := h
  cases rx
  cases ry
  obtain ⟨its, r, pl, z⟩ := I.list hH
  obtain ⟨its2, r2, pl2, z2⟩ := I.list hB
  obtain ⟨⟨cls, dd, data, sl⟩, ho, hc, n, hd⟩ := id pl.isList
  obtain ⟨⟨cls2, dd2, data2, sl2⟩, ho2, hc2, n2, hd2⟩ := id pl2.isList
  simp only at hc hd hc2 hd2
  subst hc hd hc2 hd2
  have e : its.toArray ++ its2.toArray = (its ++ its2).toArray := by simp
  have l1 := r.length
  have l2 := r2.length
  refine concat_meets ⟨_, ho, rfl⟩ ⟨_, ho2, rfl⟩ noFill_list_add seq_list_add PySem.F.slot_list_add PySem.F.entry_list_add (PySem.F.args_list_add_2 _ _) (PyProof.Rows.list_addW l b its.toArray its2.toArray n n2 dd dd2 sl sl2 (by rw [List.size_toArray, List.size_toArray]; omega)) ⟨ho, ho2, ?_⟩
  rw [e]
  exact ⟨.ref _, _, I.lnew (t' := s.toks) (r.append r2) (by rw [List.length_append]; omega), rfl, q _ I.fresh⟩
end
theorem cut_to (xs : List V) (k : Nat) : cutV xs none (some (k : Int)) = xs.take k := by
  unfold cutV
  rw [HT.sIx_none, HT.sIx_nat, Nat.sub_zero, List.drop_zero]
  by_cases h : k ≤ xs.length
  · rw [Nat.min_eq_left h]
  · rw [Nat.min_eq_right (by omega), List.take_of_length_le (Nat.le_refl _), List.take_of_length_le (by omega)]
theorem cut_from (xs : List V) (k : Nat) : cutV xs (some (k : Int)) none = xs.drop k := by
  unfold cutV
  rw [HT.sIx_none, HT.sIx_nat]
  by_cases h : k ≤ xs.length
  · rw [Nat.min_eq_left h, List.take_of_length_le (by rw [List.length_drop]; omega)]
  · rw [Nat.min_eq_right (by omega), List.drop_of_length_le (Nat.le_refl _), List.drop_of_length_le (by omega), List.take_nil]

structure Txt (K : PySem.W.Frag) (mg : Str → Option Value) : Prop where
  d_check_within : Df K mg "check_within" s_check_within ["value", "least", "most"]
  d_is_too_full : Df K mg "is_too_full" s_is_too_full ["level", "many"]
  d_stretch_at : Df K mg "stretch_at" s_stretch_at ["level", "mark"]
  d_spread : Df K mg "spread" s_spread ["level", "start", "many"]
  d_power : Df K mg "power" s_power ["base", "times"]
  d__law_next : Df K mg "_law_next" s__law_next ["_law_state"]
  d__law_too_many : Df K mg "_law_too_many" s__law_too_many ["_law_level", "_law_many"]
  d__law_whole : Df K mg "_law_whole" s__law_whole ["_law_thing"]
  d__law_spread_right : Df K mg "_law_spread_right" s__law_spread_right ["_law_level", "_law_start", "_law_many"]
  d_law : Df K mg "law" s_law ["_law_script"]
  g_MOST_LEVEL : Kn mg "MOST_LEVEL" (.int 60)
  g_MOST_SPREAD : Kn mg "MOST_SPREAD" (.int 1024)
  n_type : mg "type" = none
  n_int : mg "int" = none
  n_bool : mg "bool" = none
  n_len : mg "len" = none
  n_range : mg "range" = none
  n_min : mg "min" = none
  n_isinstance : mg "isinstance" = none
  n_list : mg "list" = none
  n_all : mg "all" = none
  n_enumerate : mg "enumerate" = none
section
variable {P : Program} {w : World} {K : PySem.W.Frag} {mg : Str → Option Value} {base : Heap}
def spCheck : Sp := fun vs H Q _ => ∃ (v lo hi : Int), vs = [.int v, .int lo, .int hi] ∧ lo ≤ v ∧ v ≤ hi ∧ Q .non H
theorem ok_check_within (T : Txt K mg) : Cal P w K mg base 1 "check_within" spCheck [] := by
  obtain ⟨f, fd, F, hm, b⟩ := T.d_check_within.ex
  refine ⟨f, fd, _, _, F.ok sc_check_within (fun vs H Q E h => ?_) (fun cdv A outer s H vs Q E hr h => ?_), hm, F.kp, b, .nil⟩
  · obtain ⟨_, _, _, rfl, _⟩ := h; rfl
  · obtain ⟨v, lo, hi, rfl, h1, h2, k⟩ := h
    refine ⟨_, (pss_one (ps_if (PW.pt (pw_or (pt_cmpR op_notTyB (pe_callTy call_type1 (by rfl) T.n_type (by decide +kernel) (pa_cons (pv 0) pa_nil)) (pe_bltn (v := .ty "int") (by rfl) T.n_int (by decide +kernel) rfl) (nomark _)) (pw_or (pt_cmpR op_lt (pv 0) (pv 1) (nomark _)) (pw_or1 (pt_cmpR op_gt (pv 0) (pv 2) (nomark _)))))) (pss_one ps_never) pss_nil)), ?_⟩
    refine ⟨_, rfl, _, _, rfl, .int _, _, _, rfl, rfl, _, rfl, ?_⟩
    refine iteNS rfl ?_
    refine ⟨_, rfl, _, rfl, _, _, rfl, rfl, _, rfl, ?_⟩
    refine iteFd (by omega) ?_
    refine ⟨_, rfl, _, rfl, _, _, rfl, rfl, _, rfl, ?_⟩
    exact iteFd (by omega) k
def spPower : Sp := fun vs H Q _ => ∃ (b : Int) (n : Nat), vs = [.int b, .int (n : Int)] ∧ 0 < b ∧ b ≤ 4 ∧ n ≤ 60 ∧ Q (.int (b ^ n)) H
theorem pow_bound {b : Int} {n : Nat} (h0 : 0 < b) (h4 : b ≤ 4) (hn : n ≤ 60) : (b ^ n).natAbs < 2 ^ 130 := by
  rw [Int.natAbs_pow]
  have h1 : b.natAbs ≤ 4 := by omega
  have h2 : b.natAbs ^ n ≤ 4 ^ n := Nat.pow_le_pow_left h1 n
  have h3 : 4 ^ n ≤ 4 ^ 60 := Nat.pow_le_pow_right (by decide) hn
  exact Nat.lt_of_le_of_lt (Nat.le_trans h2 h3) (by decide)
theorem ok_power (T : Txt K mg) : Cal P w K mg base 1 "power" spPower [] := by
  obtain ⟨f, fd, F, hm, b⟩ := T.d_power.ex
  refine ⟨f, fd, _, _, F.ok sc_power (fun vs H Q E h => ?_) (fun cdv A outer s H vs Q E hr h => ?_), hm, F.kp, b, .nil⟩
  · obtain ⟨_, _, rfl, _⟩ := h; rfl
  · obtain ⟨b, n, rfl, h0, h4, hn, k⟩ := h
    refine ⟨_, (pss_cons (ps_set (i := 2) sc_power.nd rfl (Or.inl rfl) pe_int)
      (pss_cons (ps_for PassesOwn.never rfl (pi_range1 (by rfl) T.n_range (pa_cons (pv 1) pa_nil)) (pg_name (i := 3) sc_power.nd rfl (Or.inl rfl))
        (pss_one (ps_set (i := 2) sc_power.nd rfl (Or.inl rfl) (pe_op op_mulW (pv 2) (pv 0)))))
      (pss_one (ps_ret (pv 2))))), ?_⟩
    refine ⟨_, rfl, _, rfl, by omega, by omega, for_range (lo := 0) (n := ((n : Int)).toNat) (fun i σ H' => H' = H ∧ ∃ z, σ = [some (.int b), some (.int (n : Int)), some (.int (b ^ i)), z]) ⟨rfl, none, by rw [Int.pow_zero]; rfl⟩ ?_ ?_⟩
    · rintro i σ H' hi ⟨rfl, z, rfl⟩
      have hi' : i < n := by omega
      refine ⟨_, rfl, _, rfl, _, _, rfl, rfl, wide_mul (pow_bound h0 h4 (by omega : i ≤ 60)) (show b.natAbs < 2 ^ 3 by omega) (by decide) (by decide) (by decide), rfl, some (.int (0 + (i : Int))), ?_⟩
      rw [Int.pow_succ]
      rfl
    · rintro σ H' ⟨rfl, z, rfl⟩
      refine ⟨_, rfl, ?_⟩
      rw [Int.toNat_natCast]
      exact k
def spToo : Sp := fun vs H Q _ => ∃ (l : Nat) (m : Int), vs = [.int (l : Int), .int m] ∧ l ≤ 60 ∧ 0 ≤ m ∧ m ≤ 2 ^ 60 ∧ Q (.bl (decide (4 ^ l < m * 3 ^ l))) H
theorem ok_is_too_full (T : Txt K mg) (G_check_within : Cal P w K mg base 1 "check_within" spCheck []) (G_power : Cal P w K mg base 1 "power" spPower []) : Cal P w K mg base 2 "is_too_full" spToo [] := by
  obtain ⟨f, fd, F, hm, b⟩ := T.d_is_too_full.ex
  refine ⟨f, fd, _, _, F.ok sc_is_too_full (fun vs H Q E h => ?_) (fun cdv A outer s H vs Q E hr h => ?_), hm, F.kp, b, .nil⟩
  · obtain ⟨_, _, rfl, _⟩ := h; rfl
  · obtain ⟨l, m, rfl, hl, h0, h1, k⟩ := h
    refine ⟨_, (pss_cons (ps_expr (pe_c G_check_within hr (by decide) rfl (pa_cons (pv 0) (pa_cons pe_int (pa_cons (pe_gc (by rfl) T.g_MOST_LEVEL) pa_nil)))))
      (pss_cons (ps_expr (pe_c G_check_within hr (by decide) rfl (pa_cons (pv 1) (pa_cons pe_int (pa_cons (pe_op op_shl pe_int (pe_gc (by rfl) T.g_MOST_LEVEL)) pa_nil)))))
      (pss_one (ps_ret (pe_cmpR op_gt (pe_op op_mulW (pv 1) (pe_c G_power hr (by decide) rfl (pa_cons pe_int (pa_cons (pv 0) pa_nil)))) (pe_c G_power hr (by decide) rfl (pa_cons pe_int (pa_cons (pv 0) pa_nil))) (nomark _)))))), ?_⟩
    refine ⟨_, rfl, _, _, _, rfl, by omega, by omega, ?_⟩
    refine ⟨_, rfl, _, _, rfl, rfl, ⟨by decide, by decide, by decide⟩, _, _, _, rfl, by omega, h1, ?_⟩
    refine ⟨_, rfl, _, rfl, 3, l, rfl, by decide, by decide, hl, _, _, rfl, rfl, wide_mul (show m.natAbs < 2 ^ 61 by omega) (pow_bound (b := 3) (by decide) (by decide) hl) (by decide) (by decide) (by decide), ?_⟩
    exact ⟨_, rfl, 4, l, rfl, by decide, by decide, hl, _, _, rfl, rfl, k⟩
theorem shl_one (l : Nat) : (1 : Int) * 2 ^ (l : Int).toNat = 2 ^ l := by rw [Int.toNat_natCast, Int.one_mul]
def spAt : Sp := fun vs H Q _ => ∃ (l : Nat) (m : Int), vs = [.int (l : Int), .int m] ∧ l ≤ 60 ∧ 0 ≤ m ∧ m < 2 ^ 60 ∧ Q (.int (m / 2 ^ l * 2 ^ l)) H
theorem two_pow_pos (l : Nat) : (0 : Int) < 2 ^ l := Int.pow_pos (by decide)
theorem two_pow_lt {l : Nat} (h : l ≤ 60) : ((2 : Int) ^ l).natAbs < 2 ^ 61 := by
  rw [Int.natAbs_pow]
  exact Nat.pow_lt_pow_right (by decide) (by omega)
theorem two_pow_le {l : Nat} (h : l ≤ 60) : ((2 : Int) ^ l) ≤ 2 ^ 60 := by
  have := two_pow_lt h
  have h2 : (2 : Nat) ^ l ≤ 2 ^ 60 := Nat.pow_le_pow_right (by decide) h
  have h3 : ((2 : Int) ^ l) = ((2 ^ l : Nat) : Int) := by push_cast; rfl
  rw [h3]
  exact_mod_cast h2
theorem ok_stretch_at (T : Txt K mg) (G_check_within : Cal P w K mg base 1 "check_within" spCheck []) : Cal P w K mg base 2 "stretch_at" spAt [] := by
  obtain ⟨f, fd, F, hm, b⟩ := T.d_stretch_at.ex
  refine ⟨f, fd, _, _, F.ok sc_stretch_at (fun vs H Q E h => ?_) (fun cdv A outer s H vs Q E hr h => ?_), hm, F.kp, b, .nil⟩
  · obtain ⟨_, _, rfl, _⟩ := h; rfl
  · obtain ⟨l, m, rfl, hl, h0, h1, k⟩ := h
    refine ⟨_, (pss_cons (ps_expr (pe_c G_check_within hr (by decide) rfl (pa_cons (pv 0) (pa_cons pe_int (pa_cons (pe_gc (by rfl) T.g_MOST_LEVEL) pa_nil)))))
      (pss_cons (ps_expr (pe_c G_check_within hr (by decide) rfl (pa_cons (pv 1) (pa_cons pe_int (pa_cons (pe_op op_sub (pe_op op_shl pe_int (pe_gc (by rfl) T.g_MOST_LEVEL)) pe_int) pa_nil)))))
      (pss_cons (ps_set (i := 2) sc_stretch_at.nd rfl (Or.inl rfl) (pe_op op_shl pe_int (pv 0)))
      (pss_one (ps_ret (pe_op op_mulW (pe_op op_fdivW (pv 1) (pv 2)) (pv 2))))))), ?_⟩
    refine ⟨_, rfl, _, _, _, rfl, by omega, by omega, ?_⟩
    refine ⟨_, rfl, _, _, rfl, rfl, ⟨by decide, by decide, by decide⟩, _, _, rfl, rfl, _, _, _, rfl, by omega, by show m ≤ 1 * 2 ^ 60 - 1; omega, ?_⟩
    refine ⟨_, rfl, _, _, rfl, rfl, ⟨by omega, by omega, by decide⟩, ?_⟩
    dsimp only
    rw [shl_one]
    have hp := two_pow_pos l
    have hq : 0 ≤ m / 2 ^ l := Int.ediv_nonneg h0 (Int.le_of_lt hp)
    have hq2 : m / 2 ^ l ≤ m := Int.ediv_le_self _ h0
    refine ⟨_, rfl, _, rfl, _, _, rfl, rfl, wide_div hp (two_pow_lt hl) (by decide) (by decide), _, rfl, _, _, rfl, rfl, wide_mul (show (m / 2 ^ l).natAbs < 2 ^ 61 by omega) (two_pow_lt hl) (by decide) (by decide) (by decide), k⟩

def spreadL (l : Nat) (s : Int) (m : Nat) : List Int := (List.range m).map fun (i : Nat) => s + 2 ^ l * (i : Int) / (m : Int)
def spSpread : Sp := fun vs H Q _ => ∃ (l : Nat) (s : Int) (m : Nat), vs = [.int (l : Int), .int s, .int (m : Int)] ∧ l ≤ 60 ∧ 0 ≤ s ∧ s < 2 ^ 60 ∧ m ≤ 2 ^ l ∧ m ≤ 1024 ∧ ∀ p, H p = none → Q (.ref p) (upd H p (.lst ((spreadL l s m).map V.int)))
theorem ok_spread (T : Txt K mg) (G_check_within : Cal P w K mg base 1 "check_within" spCheck []) : Cal P w K mg base 2 "spread" spSpread [] := by
  obtain ⟨f, fd, F, hm, b⟩ := T.d_spread.ex
  refine ⟨f, fd, _, _, F.ok sc_spread (fun vs H Q E h => ?_) (fun cdv A outer s H vs Q E hr h => ?_), hm, F.kp, b, .nil⟩
  · obtain ⟨_, _, _, rfl, _⟩ := h; rfl
  · obtain ⟨l, st, m, rfl, hl, h0, h1, hm1, hm2, k⟩ := h
    refine ⟨_, (pss_cons (ps_expr (pe_c G_check_within hr (by decide) rfl (pa_cons (pv 0) (pa_cons pe_int (pa_cons (pe_gc (by rfl) T.g_MOST_LEVEL) pa_nil)))))
      (pss_cons (ps_expr (pe_c G_check_within hr (by decide) rfl (pa_cons (pv 1) (pa_cons pe_int (pa_cons (pe_op op_sub (pe_op op_shl pe_int (pe_gc (by rfl) T.g_MOST_LEVEL)) pe_int) pa_nil)))))
      (pss_cons (ps_set (i := 3) sc_spread.nd rfl (Or.inr rfl) (pe_op op_shl pe_int (pv 0)))
      (pss_cons (ps_expr (pe_c G_check_within hr (by decide) rfl (pa_cons (pv 2) (pa_cons pe_int (pa_cons (pe_callB (call_min2 rfl) (by rfl) T.n_min (by decide +kernel) (pa_cons (pv 3) (pa_cons (pe_gc (by rfl) T.g_MOST_SPREAD) pa_nil))) pa_nil)))))
      (pss_one (ps_ret (pe_lc (own := [("place", 4)]) (g := (gName 4)) (by rfl) sc_spread.nd (pi_range1 (by rfl) T.n_range (pa_cons (pv 2) pa_nil)) (blkOk_by (own := [("place", 4)]) (N := ["level", "start", "many", "size", "place"]) (sc := defScope s_spread) (by decide +kernel)) (fun _ _ _ _ _ => (pg_name (i := 4) sc_spread.nd rfl (Or.inl rfl))) (fun _ _ _ _ _ => pts_nil) (fun _ _ _ _ _ => (pe_op op_add (pv 1) (pe_op op_fdivW (pe_op op_mulW (pv 3) (pv 4)) (pv 2))))))))))), ?_⟩
    refine ⟨_, rfl, _, _, _, rfl, by omega, by omega, ?_⟩
    refine ⟨_, rfl, _, _, rfl, rfl, ⟨by decide, by decide, by decide⟩, _, _, rfl, rfl, _, _, _, rfl, by omega, by show st ≤ 1 * 2 ^ 60 - 1; omega, ?_⟩
    refine ⟨_, rfl, _, _, rfl, rfl, ⟨by omega, by omega, by decide⟩, ?_⟩
    dsimp only
    rw [shl_one]
    have hp := two_pow_pos l
    have hm3 : (m : Int) ≤ 2 ^ l := by
      have h3 : ((2 : Int) ^ l) = ((2 ^ l : Nat) : Int) := by push_cast; rfl
      rw [h3]
      exact_mod_cast hm1
    refine ⟨_, rfl, _, rfl, _, _, rfl, _, _, _, rfl, by omega, ?_, ?_⟩
    · split <;> omega
    refine ⟨_, rfl, _, rfl, by omega, by omega, fun D hD => ?_⟩
    refine lc_range (lo := 0) (n := ((m : Int)).toNat) (fun i H' => H' = upd H D (.lst (((List.range i).map fun (i : Nat) => st + 2 ^ l * (i : Int) / (m : Int)).map V.int))) rfl ?_ ?_
    · rintro i H' hi rfl
      have hi' : i < m := by omega
      refine ⟨rfl, _, rfl, _, rfl, _, rfl, _, _, rfl, rfl, ?_, _, rfl, _, _, rfl, rfl, ?_, _, _, rfl, rfl, ?_⟩
      · exact wide_mul (two_pow_lt hl) (show (0 + (i : Int)).natAbs < 2 ^ 20 by omega) (by decide) (by decide) (by decide)
      · exact wide_div (by omega) (show (m : Int).natAbs < 2 ^ 20 by omega) (by decide) (by decide)
      · refine ⟨_, upd_same, ?_, ?_⟩
        · refine smallL ?_
          rw [List.length_map, List.length_map, List.length_range]
          omega
        · rw [upd_upd, List.range_succ, List.map_append, List.map_append, Int.zero_add]
          rfl
    · rintro H' rfl
      rw [Int.toNat_natCast]
      exact k D hD

theorem hu64 {A : Around} {k : Nat} (hr : Room k A) : A.units + 64 < cLine := hr.units
theorem cells_at : ¬ ((Sum.inr ("cells" : Str) : Key) = Sum.inr ("at" : Str)) := by
  intro h
  have h2 := Sum.inr.inj h
  revert h2
  decide +kernel
/-- the law's state: its cells at c, its turn k -/
def stD (c : Addr) (k : Int) : List (Key × V) := [(.inr "cells", .ref c), (.inr "at", .int k)]
theorem stD_at (c : Addr) (k : Int) : valV (stD c k) (.inr ("at" : Str) : Key) = some (.int k) := by
  unfold stD
  rw [valV_neg cells_at, valV_pos rfl]
theorem stD_cells (c : Addr) (k : Int) : valV (stD c k) (.inr ("cells" : Str) : Key) = some (.ref c) := by
  unfold stD
  rw [valV_pos rfl]
theorem stD_put (c : Addr) (k j : Int) : putK (stD c k) (.inr ("at" : Str) : Key) (.int j) = stD c j := by
  unfold stD putK
  have h : ¬ (Str.ofString "cells" = Str.ofString "at") := fun e => cells_at (congrArg Sum.inr e)
  simp [h]
theorem dp_ints {K : PySem.W.Frag} {H : Hp} : ∀ (xs : List Int), DpAll K H (xs.map V.int) (xs.map PyData.int)
  | [] => .nil
  | x :: r => .cons (.int x) (dp_ints r)
theorem shaped_ints (xs : List Int) : SeqAt.shaped (.list (xs.map PyData.int)) = true := by
  have h1 : ∀ l : List Int, PyData.canLayAll0 (l.map PyData.int) = true := fun l => by
    induction l with
    | nil => simp [PyData.canLayAll0]
    | cons a r ih => simp [PyData.canLayAll0, PyData.canLay0, ih]
  have h2 : ∀ l : List Int, PyData.depthAll (l.map PyData.int) ≤ 1 := fun l => by
    induction l with
    | nil => simp [PyData.depthAll]
    | cons a r ih => simp only [List.map_cons, PyData.depthAll, PyData.depth]; omega
  have h3 := h2 xs
  have h4 : PyData.depth (.list (xs.map PyData.int)) = PyData.depthAll (xs.map PyData.int) + 1 := by simp [PyData.depth]
  unfold SeqAt.shaped
  rw [Bool.and_eq_true, decide_eq_true_eq, h4]
  exact ⟨by simp only [PyData.canLay0]; exact h1 xs, by omega⟩
theorem eqv_ints_nil (xs : List Int) : PyData.eqv (.list (xs.map PyData.int)) (.list []) = xs.isEmpty := by
  cases xs with
  | nil => simp [PyData.eqv, PyData.eqvAll]
  | cons a r => simp [PyData.eqv, PyData.eqvAll]
/-- the state stands at a: its cells a list of at most 63 ints -/
structure StAt (K : PySem.W.Frag) (H : Hp) (a c : Addr) (k : Nat) (xs : List Int) : Prop where
  dc : H a = some (.dK (stD c k))
  cs : SqL K H c (xs.map V.int)
def spNext (K : PySem.W.Frag) : Sp := fun vs H Q _ => ∃ (a c : Addr) (k : Nat) (xs : List Int), vs = [.ref a] ∧ StAt K H a c k xs ∧ xs.length ≤ 100 ∧ k ≤ 1000000 ∧ ∀ (n : Int) (H' : Hp), 0 ≤ n → n ≤ 306783378 → (∀ b o, H b = some o → b ≠ a → H' b = some o) → StAt K H' a c (k + 1) xs → Q (.int n) H'
theorem ok__law_next (T : Txt K mg) : Cal P w K mg base 1 "_law_next" (spNext K) [] := by
  obtain ⟨f, fd, F, hm, b⟩ := T.d__law_next.ex
  refine ⟨f, fd, _, _, F.ok sc__law_next (fun vs H Q E h => ?_) (fun cdv A outer s H vs Q E hr h => ?_), hm, F.kp, b, .nil⟩
  · obtain ⟨_, _, _, _, rfl, _⟩ := h; rfl
  · obtain ⟨a, c, k, xs, rfl, ⟨hd, hc⟩, hx, hk, q⟩ := h
    refine ⟨_, (pss_cons (ps_dput (hu_of hr) (pv 0) pe_str (pe_op op_add (pe_dget (hu_of hr) (pv 0) pe_str (fun _ _ => rfl)) pe_int) rfl)
      (pss_cons (ps_set (i := 1) sc__law_next.nd rfl (Or.inl rfl) (pe_dget (hu_of hr) (pv 0) pe_str (fun _ _ => rfl)))
      (pss_cons (ps_set (i := 2) sc__law_next.nd rfl (Or.inl rfl) (pe_dget (hu_of hr) (pv 0) pe_str (fun _ _ => rfl)))
      (pss_cons (ps_set (i := 3) sc__law_next.nd rfl (Or.inl rfl) (pe_op op_add (pe_op op_mulW (pe_op op_mulW pe_int (pv 1)) (pv 1)) (pe_op op_mulW pe_int (pv 1))))
      (pss_cons (ps_if (pt_cmpR (op_neD (hu64 hr)) (pv 2) (pe_lst pa_nil) (nomark _)) (pss_one (ps_set (i := 3) sc__law_next.nd rfl (Or.inl rfl) (pe_op op_add (pv 3) (pe_op op_mulW (pe_op op_mod (pe_ix ix_list (pv 2) (pe_op op_mod (pv 1) (pe_callB call_len_seq (by rfl) T.n_len (by decide +kernel) (pa_cons (pv 2) pa_nil))) (fun _ _ => rfl)) pe_int) (pe_op op_add pe_int (pe_op op_fdivW (pv 1) (pe_callB call_len_seq (by rfl) T.n_len (by decide +kernel) (pa_cons (pv 2) pa_nil)))))))) pss_nil)
      (pss_one (ps_ret (pe_op op_fdivW (pe_op op_mod (pe_op op_mulW (pv 3) pe_int) pe_int) pe_int)))))))), ?_⟩
    refine ⟨_, rfl, _, _, rfl, by rw [← stD_at c (k : Int)]; exact DGet.k (k := (Sum.inr "at" : Key)) hd, ?_⟩
    have hda : (upd H a (.dK (stD c ((k + 1 : Nat) : Int)))) a = some (.dK (stD c ((k + 1 : Nat) : Int))) := upd_same
    refine ⟨_, _, rfl, rfl, _, rfl, a, upd H a (.dK (stD c ((k + 1 : Nat) : Int))), rfl, ?_, ?_⟩
    · have e := DPut.k (k := (Sum.inr ("at" : Str) : Key)) (v := V.int ((k : Int) + 1)) hd (smallL (by show 2 ≤ 100000; decide))
      rw [stD_put] at e
      exact e
    have hs : SqL K (upd H a (.dK (stD c ((k + 1 : Nat) : Int)))) c (xs.map V.int) := by
      rcases hc with (h | ⟨o, h⟩) | h
      · exact .inl (.inl (by rw [upd_ne (ne_of h hd (by intro z; cases z))]; exact h))
      · exact .inl (.inr ⟨o, by rw [upd_ne (ne_of h hd (by intro z; cases z))]; exact h⟩)
      · exact .inr h
    refine ⟨_, rfl, _, _, rfl, by rw [← stD_at c]; exact DGet.k (k := (Sum.inr ("at" : Str) : Key)) hda, ?_⟩
    refine ⟨_, rfl, _, _, rfl, by rw [← stD_cells c]; exact DGet.k (k := (Sum.inr ("cells" : Str) : Key)) hda, ?_⟩
    generalize hH1 : upd H a (.dK (stD c ((k + 1 : Nat) : Int))) = H1 at *
    have hkk : ((k + 1 : Nat) : Int).natAbs < 2 ^ 30 := by omega
    have b1 : ((31 : Int) * ((k + 1 : Nat) : Int)).natAbs < 2 ^ (5 + 30) := wide_lt (by decide) hkk
    have b2 : ((31 : Int) * ((k + 1 : Nat) : Int) * ((k + 1 : Nat) : Int)).natAbs < 2 ^ (5 + 30 + 30) := wide_lt b1 hkk
    have b3 : ((7919 : Int) * ((k + 1 : Nat) : Int)).natAbs < 2 ^ (13 + 30) := wide_lt (by decide) hkk
    refine ⟨_, rfl, _, _, rfl, rfl, wide_mul (a := 5) (by decide) hkk (by decide) (by decide) (by decide), _, rfl, _, _, rfl, rfl, wide_mul b1 hkk (by decide) (by decide) (by decide), _, rfl, _, _, rfl, rfl, wide_mul (a := 13) (by decide) hkk (by decide) (by decide) (by decide), _, _, rfl, rfl, ?_⟩
    have b4 : ((31 : Int) * ((k + 1 : Nat) : Int) * ((k + 1 : Nat) : Int) + 7919 * ((k + 1 : Nat) : Int)).natAbs < 2 ^ 66 := by omega
    refine ⟨_, rfl, Nat.zero_le _, fun p hp => ?_⟩
    have hfr : ∀ b o, H b = some o → b ≠ a → (upd H1 p (.lst [])) b = some o := fun b o e hb => by
      have e1 : H1 b = some o := by rw [← hH1, upd_ne hb]; exact e
      rw [upd_ne (ne_of_none e1 hp)]
      exact e1
    have hst : StAt K (upd H1 p (.lst [])) a c (k + 1) xs := ⟨by rw [upd_ne (ne_of_none hda hp)]; exact hda, Same.seq (same_new hp) hs⟩
    have hs2 := hst.cs
    refine ⟨_, _, .lst hs2 (dp_ints xs), .lst (SqL.of upd_same) .nil, shaped_ints xs, rfl, _, rfl, ?_⟩
    rw [eqv_ints_nil]
    have fin : ∀ z : Int, z.natAbs < 2 ^ 200 → 0 ≤ z * 48271 % 2147483647 / 7 ∧ z * 48271 % 2147483647 / 7 ≤ 306783378 := fun z _ => by omega
    have hlen : (xs.map V.int).length = xs.length := List.length_map ..
    cases hxe : xs.isEmpty with
    | true =>
      refine iteF ?_
      refine ⟨_, rfl, _, _, rfl, rfl, wide_mul b4 (show (48271 : Int).natAbs < 2 ^ 16 by decide) (by decide) (by decide) (by decide), _, _, rfl, rfl, (by (show (0 : Int) < _; first | decide | omega)), _, _, rfl, rfl, ⟨by decide, by decide⟩, ?_⟩
      exact q _ _ (fin _ (Nat.lt_trans b4 (by decide))).1 (fin _ (Nat.lt_trans b4 (by decide))).2 hfr hst
    | false =>
      refine iteT ?_
      have hpos : 0 < xs.length := by
        cases xs with
        | nil => cases hxe
        | cons _ _ => exact Nat.succ_pos _
      have hlt : (k + 1) % xs.length < xs.length := Nat.mod_lt _ hpos
      have hat : atI (xs.map V.int) (((k + 1 : Nat) : Int) % ((xs.map V.int).length : Int)) = some (.int xs[(k + 1) % xs.length]) := by
        have e : ((k + 1 : Nat) : Int) % ((xs.map V.int).length : Int) = (((k + 1) % xs.length : Nat) : Int) := by rw [hlen]; omega
        rw [e]
        refine atI_nat ?_
        rw [List.getElem?_map, List.getElem?_eq_getElem hlt]
        rfl
      generalize xs[(k + 1) % xs.length] = y at hat
      have hlp : (0 : Int) < ((xs.map V.int).length : Int) := by rw [hlen]; omega
      have hq0 : 0 ≤ ((k + 1 : Nat) : Int) / ((xs.map V.int).length : Int) := Int.ediv_nonneg (by omega) (by omega)
      have hq1 : ((k + 1 : Nat) : Int) / ((xs.map V.int).length : Int) ≤ ((k + 1 : Nat) : Int) := Int.ediv_le_self _ (by omega)
      have c1 : (y % 2147483647).natAbs < 2 ^ 31 := by omega
      have c2 : (1 + ((k + 1 : Nat) : Int) / ((xs.map V.int).length : Int)).natAbs < 2 ^ 31 := by omega
      have c3 := wide_lt c1 c2
      have c4 : ((31 : Int) * ((k + 1 : Nat) : Int) * ((k + 1 : Nat) : Int) + 7919 * ((k + 1 : Nat) : Int) + y % 2147483647 * (1 + ((k + 1 : Nat) : Int) / ((xs.map V.int).length : Int))).natAbs < 2 ^ 67 := by omega
      refine ⟨_, rfl, _, rfl, _, rfl, _, rfl, _, _, rfl, .inl hs2, _, _, rfl, rfl, hlp, _, _, _, _, rfl, rfl, hs2, hat, _, _, rfl, rfl, (by (show (0 : Int) < _; first | decide | omega)), ?_⟩
      refine ⟨_, rfl, _, rfl, _, _, rfl, .inl hs2, _, _, rfl, rfl, wide_div hlp (show ((xs.map V.int).length : Int).natAbs < 2 ^ 20 by rw [hlen]; omega) (by decide) (by decide), _, _, rfl, rfl, _, _, rfl, rfl, wide_mul c1 c2 (by decide) (by decide) (by decide), _, _, rfl, rfl, ?_⟩
      refine ⟨_, rfl, _, _, rfl, rfl, wide_mul c4 (show (48271 : Int).natAbs < 2 ^ 16 by decide) (by decide) (by decide) (by decide), _, _, rfl, rfl, (by (show (0 : Int) < _; first | decide | omega)), _, _, rfl, rfl, ⟨by decide, by decide⟩, ?_⟩
      exact q _ _ (fin _ (Nat.lt_trans c4 (by decide))).1 (fin _ (Nat.lt_trans c4 (by decide))).2 hfr hst
theorem stD_new (c : Addr) (k : Int) : mergeK [] (stD c k) = stD c k := by
  unfold mergeK stD
  have h : ¬ (Str.ofString "cells" = Str.ofString "at") := fun e => cells_at (congrArg Sum.inr e)
  simp [putK, h]
theorem StAt.keep {K : PySem.W.Frag} {H H' : Hp} {a c : Addr} {k : Nat} {xs : List Int} (S : StAt K H a c k xs) (e : Same H H') : StAt K H' a c k xs := ⟨e _ _ S.dc, e.seq S.cs⟩
/-- all but p as it was -/
def But (p : Addr) (H H' : Hp) : Prop := ∀ b o, H b = some o → b ≠ p → H' b = some o
theorem But.same {p : Addr} {H H1 H' : Hp} (s : Same H H1) (hp : H p = none) (k : But p H1 H') : Same H H' := fun b o e => k b o (s b o e) (ne_of_none e hp)

def spLawToo : Sp := fun vs H Q _ => ∃ (l : Nat) (m : Int), vs = [.int (l : Int), .int m] ∧ l ≤ 60 ∧ m.natAbs < 2 ^ 61 ∧ Q (.bl (decide (4 ^ l < m * 3 ^ l))) H
theorem ok__law_too_many (T : Txt K mg) : Cal P w K mg base 1 "_law_too_many" spLawToo [] := by
  obtain ⟨f, fd, F, hm, b⟩ := T.d__law_too_many.ex
  refine ⟨f, fd, _, _, F.ok sc__law_too_many (fun vs H Q E h => ?_) (fun cdv A outer s H vs Q E hr h => ?_), hm, F.kp, b, .nil⟩
  · obtain ⟨_, _, rfl, _⟩ := h; rfl
  · obtain ⟨l, m, rfl, hl, hb, k⟩ := h
    refine ⟨_, (pss_cons (ps_set (i := 2) sc__law_too_many.nd rfl (Or.inl rfl) pe_int)
      (pss_cons (ps_for PassesOwn.never rfl (pi_range1 (by rfl) T.n_range (pa_cons (pv 0) pa_nil)) (pg_name (i := 3) sc__law_too_many.nd rfl (Or.inl rfl))
        (pss_cons (ps_set (i := 1) sc__law_too_many.nd rfl (Or.inl rfl) (pe_op op_mulW (pv 1) pe_int))
      (pss_one (ps_set (i := 2) sc__law_too_many.nd rfl (Or.inl rfl) (pe_op op_mulW (pv 2) pe_int)))))
      (pss_one (ps_ret (pe_cmpR op_gt (pv 1) (pv 2) (nomark _)))))), ?_⟩
    refine ⟨_, rfl, _, rfl, by omega, by omega, for_range (lo := 0) (n := ((l : Int)).toNat) (fun i σ H' => H' = H ∧ ∃ z, σ = [some (.int (l : Int)), some (.int (m * 3 ^ i)), some (.int (4 ^ i)), z]) ⟨rfl, none, by rw [Int.pow_zero, Int.pow_zero, Int.mul_one]; rfl⟩ ?_ ?_⟩
    · rintro i σ H' hi ⟨rfl, z, rfl⟩
      have hi' : i < l := by omega
      have h3 : (m * 3 ^ i).natAbs < 2 ^ (61 + 130) := wide_lt hb (pow_bound (by decide) (by decide) (by omega))
      refine ⟨_, rfl, _, _, rfl, rfl, wide_mul h3 (show (3 : Int).natAbs < 2 ^ 3 by decide) (by decide) (by decide) (by decide), _, rfl, _, _, rfl, rfl, wide_mul (pow_bound (b := 4) (n := i) (by decide) (by decide) (by omega)) (show (4 : Int).natAbs < 2 ^ 3 by decide) (by decide) (by decide) (by decide), rfl, some (.int (0 + (i : Int))), ?_⟩
      rw [Int.pow_succ, Int.pow_succ, ← Int.mul_assoc]
      rfl
    · rintro σ H' ⟨rfl, z, rfl⟩
      refine ⟨_, rfl, _, rfl, _, _, rfl, rfl, ?_⟩
      rw [Int.toNat_natCast]
      exact k

def spWhole : Sp := fun vs H Q _ => ∃ (i : Int), vs = [.int i] ∧ Q (.bl true) H
theorem ok__law_whole (T : Txt K mg) : Cal P w K mg base 1 "_law_whole" spWhole [] := by
  obtain ⟨f, fd, F, hm, b⟩ := T.d__law_whole.ex
  refine ⟨f, fd, _, _, F.ok sc__law_whole (fun vs H Q E h => ?_) (fun cdv A outer s H vs Q E hr h => ?_), hm, F.kp, b, .nil⟩
  · obtain ⟨_, rfl, _⟩ := h; rfl
  · obtain ⟨i, rfl, k⟩ := h
    refine ⟨_, (pss_one (ps_ret (pe_and (pe_callB call_isi (by rfl) T.n_isinstance (by decide +kernel) (pa_cons (pv 0) (pa_cons (pe_bltn (v := .ty "int") (by rfl) T.n_int (by decide +kernel) rfl) pa_nil))) (pe_one (pe_not (pe_callB call_isi (by rfl) T.n_isinstance (by decide +kernel) (pa_cons (pv 0) (pa_cons (pe_bltn (v := .ty "bool") (by rfl) T.n_bool (by decide +kernel) rfl) pa_nil)))))))), ?_⟩
    refine ⟨_, rfl, _, _, _, _, true, rfl, .ty "int", .base (.int i), kit_ty (by decide +kernel), true, rfl, ?_⟩
    refine iteT ?_
    refine ⟨_, rfl, _, _, _, _, false, rfl, .ty "bool", .base (.int i), kit_ty (by decide +kernel), false, rfl, k⟩
theorem spread_at {l m : Nat} {s : Int} {i : Nat} (h : i < m) : (spreadL l s m)[i]? = some (s + 2 ^ l * (i : Int) / (m : Int)) := by
  unfold spreadL
  rw [List.getElem?_map, List.getElem?_range h]
  rfl
theorem spread_len (l : Nat) (s : Int) (m : Nat) : (spreadL l s m).length = m := by
  unfold spreadL
  rw [List.length_map, List.length_range]
theorem two_pow_nat (l : Nat) : ((2 : Int) ^ l) = ((2 ^ l : Nat) : Int) := by push_cast; rfl
theorem share_lt {l m : Nat} {i : Nat} (h : i < m) : 2 ^ l * (i : Int) / (m : Int) < 2 ^ l := by
  apply Int.ediv_lt_of_lt_mul (by omega)
  exact Int.mul_lt_mul_of_pos_left (by omega) (two_pow_pos l)
theorem share_nn (l m i : Nat) : 0 ≤ 2 ^ l * (i : Int) / (m : Int) := Int.ediv_nonneg (Int.mul_nonneg (Int.le_of_lt (two_pow_pos l)) (by omega)) (by omega)
theorem share_lo (l m i : Nat) (h : 0 < m) : 2 ^ l * (i : Int) / (m : Int) * m ≤ i * 2 ^ l := by
  have := Int.ediv_mul_le (2 ^ l * (i : Int)) (show (m : Int) ≠ 0 by omega)
  rw [Int.mul_comm (i : Int)]
  exact this
theorem share_hi (l m i : Nat) (h : 0 < m) : i * 2 ^ l < (2 ^ l * (i : Int) / (m : Int) + 1) * m := by
  have := Int.lt_ediv_add_one_mul_self (2 ^ l * (i : Int)) (show (0 : Int) < m by omega)
  rw [Int.mul_comm (i : Int)]
  exact this
theorem share_mono {l m i : Nat} (h : 0 < m) (hm : m ≤ 2 ^ l) : 2 ^ l * (i : Int) / (m : Int) < 2 ^ l * ((i + 1 : Nat) : Int) / (m : Int) := by
  have e : (2 : Int) ^ l * ((i + 1 : Nat) : Int) = 2 ^ l * (i : Int) + 2 ^ l := by
    rw [Int.natCast_add, Int.mul_add]; simp
  have h1 : (2 : Int) ^ l * (i : Int) + (m : Int) * 1 ≤ 2 ^ l * ((i + 1 : Nat) : Int) := by
    rw [e, two_pow_nat]
    omega
  have h2 : (2 ^ l * (i : Int) + (m : Int) * 1) / (m : Int) = 2 ^ l * (i : Int) / (m : Int) + 1 := Int.add_mul_ediv_left _ _ (by omega)
  have h3 := Int.ediv_le_ediv (show (0 : Int) < m by omega) h1
  omega
def spRight : Sp := fun vs H Q _ => ∃ (l : Nat) (s mi : Int) (m : Nat), vs = [.int (l : Int), .int s, .int mi] ∧ mi = (m : Int) ∧ l ≤ 60 ∧ 0 ≤ s ∧ s < 2 ^ 60 ∧ m ≤ 2 ^ l ∧ m ≤ 1024 ∧ ∀ H', Same H H' → Q (.bl true) H'
theorem bls_true (n : Nat) : ((List.replicate n true).all id) = true := by
  rw [List.all_eq_true]
  intro b hb
  rw [List.eq_of_mem_replicate hb]
  rfl
theorem eqv_ints (xs : List Int) : PyData.eqv (.list (xs.map PyData.int)) (.list (xs.map PyData.int)) = true := by
  have h : ∀ l : List Int, PyData.eqvAll (l.map PyData.int) (l.map PyData.int) = true := fun l => by
    induction l with
    | nil => simp [PyData.eqvAll]
    | cons a r ih => simp [PyData.eqvAll, PyData.eqv, ih]
  simp only [PyData.eqv]
  exact h xs
theorem ok__law_spread_right (T : Txt K mg) (G_spread : Cal P w K mg base 2 "spread" spSpread []) (G__law_whole : Cal P w K mg base 1 "_law_whole" spWhole []) : Cal P w K mg base 3 "_law_spread_right" spRight [] := by
  obtain ⟨f, fd, F, hm, b⟩ := T.d__law_spread_right.ex
  refine ⟨f, fd, _, _, F.ok sc__law_spread_right (fun vs H Q E h => ?_) (fun cdv A outer s H vs Q E hr h => ?_), hm, F.kp, b, .nil⟩
  · obtain ⟨_, _, _, _, rfl, _⟩ := h; rfl
  · obtain ⟨l, st, _, m, rfl, rfl, hl, h0, h1, hm1, hm2, k⟩ := h
    refine ⟨_, (pss_cons (ps_set (i := 3) sc__law_spread_right.nd rfl (Or.inl rfl) (pe_op op_shl pe_int (pv 0)))
      (pss_cons (ps_set (i := 4) sc__law_spread_right.nd rfl (Or.inl rfl) (pe_c G_spread hr (by decide) rfl (pa_cons (pv 0) (pa_cons (pv 1) (pa_cons (pv 2) pa_nil)))))
      (pss_cons (ps_if (PW.pt (pw_or (pt_not (pt_val (pe_callB call_isi (by rfl) T.n_isinstance (by decide +kernel) (pa_cons (pv 4) (pa_cons (pe_bltn (v := .ty "list") (by rfl) T.n_list (by decide +kernel) rfl) pa_nil))))) (pw_or (pt_not (pt_val (pe_callB (cr_all rfl) (by rfl) T.n_all (by decide +kernel) (pa_cons (pe_lc (own := [("_law_mark", 5)]) (g := (gName 5)) (by rfl) sc__law_spread_right.nd (pi_list (pv 4)) (blkOk_by (own := [("_law_mark", 5)]) (N := ["_law_level", "_law_start", "_law_many", "_law_size", "_law_found", "_law_mark", "_law_place", "_law_exact", "_law_kept"]) (sc := defScope s__law_spread_right) (by decide +kernel)) (fun _ _ _ _ _ => (pg_name (i := 5) sc__law_spread_right.nd rfl (Or.inl rfl))) (fun _ _ _ _ _ => pts_nil) (fun _ _ _ _ _ => (pe_c G__law_whole hr (by decide) rfl (pa_cons (pv 5) pa_nil)))) pa_nil)))) (pw_or1 (pt_cmpR op_ne (pe_callB call_len_seq (by rfl) T.n_len (by decide +kernel) (pa_cons (pv 4) pa_nil)) (pv 2) (nomark _)))))) (pss_one (ps_ret pe_bl)) pss_nil)
      (pss_cons (ps_for PassesOwn.never rfl (pi_enum (by rfl) T.n_enumerate (pa_cons (pv 4) pa_nil)) (pg_tup rfl (pgs_cons (pg_name (i := 6) sc__law_spread_right.nd rfl (Or.inl rfl)) (pgs_cons (pg_name (i := 5) sc__law_spread_right.nd rfl (Or.inl rfl)) pgs_nil)))
        (pss_cons (ps_set (i := 7) sc__law_spread_right.nd rfl (Or.inl rfl) (pe_op op_mulW (pv 6) (pv 3)))
      (pss_cons (ps_if (pt_not (pt_chain op_le op_lt (pe_op op_sub (pe_op op_mulW (pv 5) (pv 2)) (pe_op op_mulW (pv 1) (pv 2))) (pv 7) (pe_op op_mulW (pe_op op_sub (pe_op op_add (pv 5) pe_int) (pv 1)) (pv 2)))) (pss_one (ps_ret pe_bl)) pss_nil)
      (pss_one (ps_if (PW.pt (pw_or (PW.pt (pw_and (pt_cmpR op_gt (pv 6) pe_int (nomark _)) (pw_and1 (pt_cmpR op_ge (pe_ix ix_list (pv 4) (pe_op op_sub (pv 6) pe_int) (fun _ _ => rfl)) (pv 5) (nomark _))))) (pw_or1 (pt_not (pt_chain op_le op_lt (pv 1) (pv 5) (pe_op op_add (pv 1) (pv 3))))))) (pss_one (ps_ret pe_bl)) pss_nil)))))
      (pss_cons (ps_set (i := 8) sc__law_spread_right.nd rfl (Or.inl rfl) (pe_callTy call_list_of (by rfl) T.n_list (by decide +kernel) (pa_cons (pv 4) pa_nil)))
      (pss_cons (ps_expr (pe_bm PySem.F.plainAttrs_list PySem.F.slot_list_append PySem.F.type_list_append mt_append (pv 4) (pa_cons pe_int pa_nil)))
      (pss_one (ps_ret (pe_cmpR (op_eqD (hu64 hr)) (pe_c G_spread hr (by decide) rfl (pa_cons (pv 0) (pa_cons (pv 1) (pa_cons (pv 2) pa_nil)))) (pv 8) (nomark _)))))))))), ?_⟩
    refine ⟨_, rfl, _, _, rfl, rfl, ⟨by omega, by omega, by decide⟩, ?_⟩
    dsimp only
    rw [shl_one]
    -- found = spread(..)
    refine ⟨_, rfl, _, rfl, _, rfl, l, st, m, rfl, hl, h0, h1, hm1, hm2, fun fa hfa => ?_⟩
    have hF : (upd H fa (.lst ((spreadL l st m).map V.int))) fa = some (.lst ((spreadL l st m).map V.int)) := upd_same
    have s1 : Same H (upd H fa (.lst ((spreadL l st m).map V.int))) := same_new hfa
    generalize upd H fa (.lst ((spreadL l st m).map V.int)) = H1 at *
    have hlen : ((spreadL l st m).map V.int).length = m := by rw [List.length_map, spread_len]
    -- isinstance, all, len
    refine ⟨_, rfl, _, _, _, _, true, rfl, .ty "list", .base (.lst hF), kit_ty (by decide +kernel), true, rfl, ?_⟩
    refine iteF ?_
    refine ⟨_, rfl, fa, rfl, ⟨_, SqL.of hF⟩, fun D hD => lc_list (K := K) (a := fa) (xs := (spreadL l st m).map V.int) (fun i H' => Same H1 H' ∧ H' D = some (.lst ((List.replicate i true).map V.bl))) ⟨same_new hD, upd_same⟩ (fun i H' _ p => p.1.seq (SqL.of hF)) ?_ ?_⟩
    · rintro i x H' hi ⟨p1, p2⟩
      obtain ⟨z, rfl⟩ : ∃ z, x = V.int z := by
        rw [List.getElem?_map] at hi
        cases e : (spreadL l st m)[i]? with
        | none => rw [e] at hi; cases hi
        | some z => rw [e] at hi; exact ⟨z, (Option.some.inj hi).symm⟩
      have hil : i < m := by rw [← hlen]; exact (List.getElem?_eq_some_iff.mp hi).1
      refine ⟨rfl, _, rfl, z, rfl, _, p2, ?_, fun b o e => ?_, ?_⟩
      · refine smallL ?_
        rw [List.length_map, List.length_replicate]
        omega
      · rw [upd_ne (ne_of_none e hD)]
        exact p1 b o e
      · rw [upd_same, List.replicate_succ', List.map_append]
        rfl
    rintro H2 ⟨p1, p2⟩
    refine ⟨_, _, rfl, SqL.of p2, _, rfl, ?_⟩
    rw [hlen, bls_true]
    refine iteF ?_
    have hF2 := p1 _ _ hF
    refine ⟨_, rfl, _, _, rfl, .inl (SqL.of hF2), _, rfl, rfl, _, rfl, ?_⟩
    rw [hlen]
    refine iteNS rfl ?_
    -- the loop
    refine ⟨_, rfl, fa, _, rfl, SqL.of hF2, for_it walk_enum (fun i σ H' => Same H2 H' ∧ ∃ z5 z6 z7 z8, σ = [some (.int (l : Int)), some (.int st), some (.int (m : Int)), some (.int (2 ^ l)), some (.ref fa), z5, z6, z7, z8])
      ⟨Same.refl _, none, none, none, none, rfl⟩ (fun i σ H' _ p => p.1.seq (SqL.of hF2)) ?_ ?_⟩
    · rintro i x σ H3 H4 hi ⟨q1, z5, z6, z7, z8, rfl⟩ ⟨tp, x1, y1, rfl, hT, rfl, e1, e2⟩
      have hil : i < m := by rw [← hlen]; exact hi
      have ex : x1 = .int (i : Int) := (Option.some.inj e1).symm
      have ey : y1 = .int (st + 2 ^ l * (i : Int) / (m : Int)) := by
        have e3 : ((spreadL l st m).map V.int)[i]? = some y1 := e2
        rw [List.getElem?_map, spread_at hil] at e3
        exact (Option.some.inj e3).symm
      subst ex ey
      have q2 : Same H2 (upd H3 tp (.tup [.int (i : Int), .int (st + 2 ^ l * (i : Int) / (m : Int))])) := q1.trans (same_new hT)
      have hF4 := q2 _ _ hF2
      refine ⟨tp, _, rfl, SqT.of upd_same, rfl, _, _, rfl, _, _, rfl, rfl, ?_⟩
      generalize upd H3 tp (.tup [.int (i : Int), .int (st + 2 ^ l * (i : Int) / (m : Int))]) = H4 at *
      have n0 := share_nn l m i
      have n1 := share_lt (l := l) hil
      have n2 := share_lo l m i (by omega)
      have n3 := share_hi l m i (by omega)
      have n4 := two_pow_le hl
      generalize hq : 2 ^ l * (i : Int) / (m : Int) = q at *
      have bm : (m : Int).natAbs < 2 ^ 12 := by omega
      have bi : (i : Int).natAbs < 2 ^ 12 := by omega
      -- exact = place * size
      refine ⟨_, rfl, _, rfl, _, _, rfl, rfl, wide_mul bi (two_pow_lt hl) (by decide) (by decide) (by decide), ?_⟩
      -- the chain
      refine ⟨_, rfl, _, rfl, _, _, rfl, rfl, wide_mul (show (st + q).natAbs < 2 ^ 70 by omega) bm (by decide) (by decide) (by decide), _, rfl, _, rfl, _, _, rfl, rfl, wide_mul (show st.natAbs < 2 ^ 70 by omega) bm (by decide) (by decide) (by decide), _, _, rfl, rfl, _, rfl, _, _, rfl, rfl, _, rfl, ?_⟩
      refine iteTd (by rw [Int.add_mul]; omega) ?_
      refine ⟨_, rfl, _, _, rfl, rfl, _, rfl, _, _, rfl, rfl, _, rfl, _, _, rfl, rfl, wide_mul (show (st + q + 1 - st).natAbs < 2 ^ 70 by omega) bm (by decide) (by decide) (by decide), _, _, rfl, rfl, _, rfl, ?_⟩
      rw [decide_eq_true (show (i : Int) * 2 ^ l < (st + q + 1 - st) * (m : Int) by rw [show st + q + 1 - st = q + 1 by omega]; exact n3)]
      refine iteF ?_
      -- place > 0 and found[place - 1] >= mark or not ..
      refine ⟨_, rfl, _, _, rfl, rfl, _, rfl, ?_⟩
      refine ite2d (fun hpos => ?_) (fun hz => ?_)
      · obtain ⟨j, rfl⟩ : ∃ j, i = j + 1 := ⟨i - 1, by omega⟩
        have hmono := share_mono (l := l) (m := m) (i := j) (by omega) hm1
        rw [hq] at hmono
        have hat : atI ((spreadL l st m).map V.int) (((j + 1 : Nat) : Int) - 1) = some (.int (st + 2 ^ l * (j : Int) / (m : Int))) := by
          rw [show ((j + 1 : Nat) : Int) - 1 = (j : Int) by omega]
          refine atI_nat ?_
          rw [List.getElem?_map, spread_at (by omega)]
          rfl
        refine ⟨_, rfl, _, rfl, _, _, rfl, rfl, _, _, _, _, rfl, rfl, SqL.of hF4, hat, _, rfl, _, _, rfl, rfl, _, rfl, ?_⟩
        refine iteFd (by omega) ?_
        refine ⟨_, rfl, _, rfl, _, _, rfl, rfl, _, rfl, ?_⟩
        refine iteTd (by omega) ?_
        refine ⟨_, rfl, _, rfl, _, _, rfl, rfl, _, _, rfl, rfl, _, rfl, ?_⟩
        rw [decide_eq_true (show st + q < st + 2 ^ l by omega)]
        refine iteF ?_
        exact ⟨q2, _, _, _, _, rfl⟩
      · refine iteF ?_
        refine ⟨_, rfl, _, rfl, _, _, rfl, rfl, _, rfl, ?_⟩
        refine iteTd (by omega) ?_
        refine ⟨_, rfl, _, rfl, _, _, rfl, rfl, _, _, rfl, rfl, _, rfl, ?_⟩
        rw [decide_eq_true (show st + q < st + 2 ^ l by omega)]
        refine iteF ?_
        exact ⟨q2, _, _, _, _, rfl⟩
    · rintro σ H3 ⟨q1, z5, z6, z7, z8, rfl⟩
      have hF3 := q1 _ _ hF2
      -- kept = list(found)
      refine ⟨_, rfl, _, _, rfl, .inl (SqL.of hF3), fun ka hka => ?_⟩
      -- found.append(0)
      have nfk : fa ≠ ka := ne_of_none hF3 hka
      refine ⟨_, rfl, .inl ⟨rfl, _, SqL.of (by rw [upd_ne nfk]; exact hF3)⟩, fa, _, _, rfl, rfl, by rw [upd_ne nfk]; exact hF3, smallL (by rw [hlen]; omega), ?_⟩
      -- spread(..) == kept
      refine ⟨_, rfl, _, rfl, _, rfl, l, st, m, rfl, hl, h0, h1, hm1, hm2, fun ga hga => ?_⟩
      have nka : ka ≠ ga := fun e => by
        rw [← e, upd_ne nfk.symm, upd_same] at hga
        cases hga
      refine ⟨_, rfl, _, _, .lst (SqL.of upd_same) (dp_ints _), .lst (SqL.of (by rw [upd_ne nka, upd_ne nfk.symm, upd_same])) (dp_ints _), shaped_ints _, shaped_ints _, ?_⟩
      rw [eqv_ints]
      refine k _ fun b o e => ?_
      have e3 : H3 b = some o := q1 _ _ (p1 _ _ (s1 _ _ e))
      have nbf : b ≠ fa := ne_of_none e hfa
      have nbk : b ≠ ka := ne_of_none e3 hka
      have nbg : b ≠ ga := fun z => by
        rw [← z, upd_ne nbf, upd_ne nbk, e3] at hga
        cases hga
      rw [upd_ne nbg, upd_ne nbf, upd_ne nbk]
      exact e3
theorem level_at {n : Int} (h : 0 ≤ n) : ∃ L : Nat, L ≤ 60 ∧ atI [V.int (n / 5 % 61), V.int (n / 5 % 12), V.int 60, V.int (n / 5 % 4)] (n % 4) = some (.int (L : Int)) := by
  have h1 : n % 4 = 0 ∨ n % 4 = 1 ∨ n % 4 = 2 ∨ n % 4 = 3 := by omega
  rcases h1 with e | e | e | e <;> rw [e]
  · refine ⟨(n / 5 % 61).toNat, by omega, (atI_nat (j := 0) rfl).trans ?_⟩
    rw [Int.toNat_of_nonneg (by omega)]
  · refine ⟨(n / 5 % 12).toNat, by omega, (atI_nat (j := 1) rfl).trans ?_⟩
    rw [Int.toNat_of_nonneg (by omega)]
  · exact ⟨60, by omega, atI_nat (j := 2) rfl⟩
  · refine ⟨(n / 5 % 4).toNat, by omega, (atI_nat (j := 3) rfl).trans ?_⟩
    rw [Int.toNat_of_nonneg (by omega)]
theorem share_num {L : Nat} {n : Int} (h : 0 ≤ n) : ∃ m : Nat, (if n / 700 % 300 < 1 * 2 ^ (if (10 : Int) < (L : Int) then (10 : Int) else (L : Int)).toNat then n / 700 % 300 else 1 * 2 ^ (if (10 : Int) < (L : Int) then (10 : Int) else (L : Int)).toNat) = (m : Int) ∧ m ≤ 2 ^ L ∧ m ≤ 1024 := by
  have e : ∃ j : Nat, (if (10 : Int) < (L : Int) then (10 : Int) else (L : Int)).toNat = j ∧ j ≤ 10 ∧ j ≤ L := by
    split
    · exact ⟨10, rfl, by omega, by omega⟩
    · exact ⟨L, Int.toNat_natCast _, by omega, by omega⟩
  obtain ⟨j, e1, e2, e3⟩ := e
  rw [e1, Int.one_mul, two_pow_nat]
  have h1 : 2 ^ j ≤ 2 ^ L := Nat.pow_le_pow_right (by decide) e3
  have h2 : 2 ^ j ≤ 2 ^ 10 := Nat.pow_le_pow_right (by decide) e2
  split
  · exact ⟨(n / 700 % 300).toNat, by omega, by omega, by omega⟩
  · exact ⟨2 ^ j, rfl, h1, by omega⟩
def spLaw (K : PySem.W.Frag) : Sp := fun vs H Q _ => ∃ (a : Addr) (ns : List Int), vs = [.ref a] ∧ SqL K H a (ns.map V.int) ∧ ns.length ≤ 63 ∧ ∀ H', Q (.bl true) H'
theorem ok_law (T : Txt K mg) (G_spread : Cal P w K mg base 2 "spread" spSpread []) (G_is_too_full : Cal P w K mg base 2 "is_too_full" spToo []) (G_stretch_at : Cal P w K mg base 2 "stretch_at" spAt [])
    (G__law_next : Cal P w K mg base 1 "_law_next" (spNext K) []) (G__law_too_many : Cal P w K mg base 1 "_law_too_many" spLawToo []) (G__law_whole : Cal P w K mg base 1 "_law_whole" spWhole []) (G__law_spread_right : Cal P w K mg base 3 "_law_spread_right" spRight [])
    {f : Addr} {fd : FuncData} (F : Fun K "law" "law" s_law f fd) : FnOk P w K mg base CX0 4 f fd ["_law_script"] (spLaw K) := by
  refine F.ok sc_law (fun vs H Q E h => ?_) (fun cdv A outer s H vs Q E hr h => ?_)
  · obtain ⟨_, _, rfl, _⟩ := h; rfl
  · obtain ⟨a, ns, rfl, hS, hlen, k⟩ := h
    refine ⟨_, (pss_cons (ps_set (i := 1) sc_law.nd rfl (Or.inl rfl) (pe_disp (pps_cons pe_str (pv 0) (pps_cons pe_str pe_int pps_nil)) (by rfl) (by rfl) (fun z => by cases z) (by decide)))
      (pss_cons (ps_for PassesOwn.never rfl (pi_list (pe_slice sl_list (pe_op op_catS (pv 0) (pe_lst (pa_cons pe_int pa_nil))) po_none (po_some pe_int))) (pg_name (i := 2) sc_law.nd rfl (Or.inl rfl))
        (pss_cons (ps_set (i := 3) sc_law.nd rfl (Or.inl rfl) (pe_c G__law_next hr (by decide) rfl (pa_cons (pv 1) pa_nil)))
      (pss_cons (ps_set (i := 4) sc_law.nd rfl (Or.inl rfl) (pe_ix ix_list (pe_lst (pa_cons (pe_op op_mod (pe_op op_fdivW (pv 3) pe_int) pe_int) (pa_cons (pe_op op_mod (pe_op op_fdivW (pv 3) pe_int) pe_int) (pa_cons pe_int (pa_cons (pe_op op_mod (pe_op op_fdivW (pv 3) pe_int) pe_int) pa_nil))))) (pe_op op_mod (pv 3) pe_int) (fun _ _ => rfl)))
      (pss_cons (ps_set (i := 5) sc_law.nd rfl (Or.inl rfl) pe_int)
      (pss_cut (ps_while PassesOwn.never (PW.pt (pw_and (pt_cmpR op_lt (pv 5) pe_int (nomark _)) (pw_and1 (pt_not (pt_val (pe_c G__law_too_many hr (by decide) rfl (pa_cons (pv 4) (pa_cons (pe_op op_add (pv 5) pe_int) pa_nil)))))))) (pss_one (ps_set (i := 5) sc_law.nd rfl (Or.inl rfl) (pe_op op_add (pv 5) pe_int))))
      (pss_cons (ps_set (i := 6) sc_law.nd rfl (Or.inl rfl) (pe_op op_mod (pe_op op_mulW (pe_op op_add (pe_op op_mulW (pe_op op_add (pe_op op_mod (pv 2) pe_int) (pv 3)) pe_int) (pe_c G__law_next hr (by decide) rfl (pa_cons (pv 1) pa_nil))) pe_int) (pe_op op_shl pe_int pe_int)))
      (pss_cons (ps_for PassesOwn.never rfl (pi_tup (pe_tup (pa_cons (pv 5) (pa_cons (pe_op op_add (pv 5) pe_int) (pa_cons (pe_op op_mod (pe_op op_fdivW (pv 3) pe_int) pe_int) (pa_cons (pv 6) (pa_cons pe_int pa_nil))))))) (pg_name (i := 7) sc_law.nd rfl (Or.inl rfl))
        (pss_cons (ps_set (i := 8) sc_law.nd rfl (Or.inl rfl) (pe_c G_is_too_full hr (by decide) rfl (pa_cons (pv 4) (pa_cons (pv 7) pa_nil))))
      (pss_one (ps_if (PW.pt (pw_or (pt_not (pt_val (pe_callB call_isi (by rfl) T.n_isinstance (by decide +kernel) (pa_cons (pv 8) (pa_cons (pe_bltn (v := .ty "bool") (by rfl) T.n_bool (by decide +kernel) rfl) pa_nil))))) (pw_or1 (pt_cmpR op_ne (pv 8) (pe_c G__law_too_many hr (by decide) rfl (pa_cons (pv 4) (pa_cons (pv 7) pa_nil))) (nomark _))))) (pss_one (ps_ret pe_bl)) pss_nil))))
      (pss_cons (ps_set (i := 9) sc_law.nd rfl (Or.inl rfl) (pe_c G_stretch_at hr (by decide) rfl (pa_cons (pv 4) (pa_cons (pv 6) pa_nil))))
      (pss_cons (ps_if (PW.pt (pw_or (pt_not (pt_val (pe_c G__law_whole hr (by decide) rfl (pa_cons (pv 9) pa_nil)))) (pw_or (pt_cmpR op_ne (pe_op op_mod (pv 9) (pe_op op_shl pe_int (pv 4))) pe_int (nomark _)) (pw_or1 (pt_not (pt_chain op_le op_lt (pv 9) (pv 6) (pe_op op_add (pv 9) (pe_op op_shl pe_int (pv 4))))))))) (pss_one (ps_ret pe_bl)) pss_nil)
      (pss_one (ps_for PassesOwn.never rfl (pi_tup (pe_tup (pa_cons (pv 9) (pa_cons (pv 6) pa_nil)))) (pg_name (i := 10) sc_law.nd rfl (Or.inl rfl))
        (pss_one (ps_if (pt_not (pt_val (pe_c G__law_spread_right hr (by decide) rfl (pa_cons (pv 4) (pa_cons (pv 10) (pa_cons (pe_callB (call_min2 rfl) (by rfl) T.n_min (by decide +kernel) (pa_cons (pe_op op_shl pe_int (pe_callB (call_min2 rfl) (by rfl) T.n_min (by decide +kernel) (pa_cons (pv 4) (pa_cons pe_int pa_nil)))) (pa_cons (pe_op op_mod (pe_op op_fdivW (pv 3) pe_int) pe_int) pa_nil))) pa_nil)))))) (pss_one (ps_ret pe_bl)) pss_nil)))))))))))))
      (pss_cons (ps_if (PW.pt (pw_or (pt_cmpR op_ne (pe_callB call_len_seq (by rfl) T.n_len (by decide +kernel) (pa_cons (pe_c G_spread hr (by decide) rfl (pa_cons pe_int (pa_cons pe_int (pa_cons pe_int pa_nil)))) pa_nil)) pe_int (nomark _)) (pw_or1 (pt_cmpR op_notBl (pe_c G_is_too_full hr (by decide) rfl (pa_cons pe_int (pa_cons (pe_op op_shl pe_int pe_int) pa_nil))) pe_bl (nomark _))))) (pss_one (ps_ret pe_bl)) pss_nil)
      (pss_cons (ps_if (PW.pt (pw_or (pt_cmpR (op_neD (hu64 hr)) (pe_c G_spread hr (by decide) rfl (pa_cons pe_int (pa_cons pe_int (pa_cons pe_int pa_nil)))) (pe_lst (pa_cons pe_int (pa_cons pe_int pa_nil))) (nomark _)) (pw_or1 (pt_cmpR (op_neD (hu64 hr)) (pe_c G_spread hr (by decide) rfl (pa_cons pe_int (pa_cons pe_int (pa_cons pe_int pa_nil)))) (pe_lst (pa_cons pe_int (pa_cons pe_int pa_nil))) (nomark _))))) (pss_one (ps_ret pe_bl)) pss_nil)
      (pss_one (ps_ret (pe_and (pe_cmpR op_isBl (pe_c G_is_too_full hr (by decide) rfl (pa_cons pe_int (pa_cons pe_int pa_nil))) pe_bl (nomark _)) (pe_one (pe_cmpR op_isBl (pe_c G_is_too_full hr (by decide) rfl (pa_cons pe_int (pa_cons pe_int pa_nil))) pe_bl (nomark _)))))))))), ?_⟩
    refine fun st hst => ⟨_, rfl, upd_same, stD a 0, rfl, by show 2 ≤ 15; decide, ?_⟩
    rw [stD_new, upd_upd]
    have hSt : StAt K (upd H st (.dK (stD a ((0 : Nat) : Int)))) st a 0 ns := ⟨upd_same, (same_new hst).seq hS⟩
    have s1 : Same H (upd H st (.dK (stD a ((0 : Nat) : Int)))) := same_new hst
    change tSeq _ _ _ _ (upd H st (.dK (stD a ((0 : Nat) : Int))))
    generalize upd H st (.dK (stD a ((0 : Nat) : Int))) = H1 at *
    refine ⟨_, rfl, Nat.le_of_lt (by decide), fun z hz => ⟨_, _, _, _, rfl, rfl, (same_new hz).seq hSt.cs, SqL.of upd_same, small (by rw [List.length_map]; show ns.length + 1 ≤ _; omega), fun q hq => ?_⟩⟩
    refine ⟨_, rfl, _, _, rfl, SqL.of upd_same, fun la hla => ?_⟩
    have hz1 : H1 z = none := hz
    have s2 : Same H1 (upd (upd (upd H1 z (.lst [.int 0])) q (.lst (ns.map V.int ++ [.int 0]))) la (.lst (cutV (ns.map V.int ++ [.int 0]) none (some 60)))) := ((same_new hz).trans (same_new hq)).trans (same_new hla)
    have hL : (upd (upd (upd H1 z (.lst [.int 0])) q (.lst (ns.map V.int ++ [.int 0]))) la (.lst (cutV (ns.map V.int ++ [.int 0]) none (some 60)))) la = some (.lst ((ns ++ [0]).take 60 |>.map V.int)) := by
      rw [upd_same, show (some (60 : Int)) = some ((60 : Nat) : Int) from rfl, cut_to, List.map_take, List.map_append]
      rfl
    refine ⟨la, rfl, ⟨_, SqL.of upd_same⟩, ?_⟩
    generalize upd (upd (upd H1 z (.lst [.int 0])) q (.lst (ns.map V.int ++ [.int 0]))) la (.lst (cutV (ns.map V.int ++ [.int 0]) none (some 60))) = H2 at *
    have hSt2 := hSt.keep s2
    have hlc : ((ns ++ [0]).take 60).length ≤ 60 := List.length_take_le ..
    generalize (ns ++ [0]).take 60 = cells at *
    have nls : la ≠ st := ne_of hL hSt2.dc (by intro e; cases e)
    refine for_list (K := K) (a := la) (xs := cells.map V.int) (fun i σ H' => H' la = some (.lst (cells.map V.int)) ∧ ∃ kk z2 z3 z4 z5 z6 z7 z8 z9 z10, kk ≤ 2 * i ∧ StAt K H' st a kk ns ∧ σ = [some (.ref a), some (.ref st), z2, z3, z4, z5, z6, z7, z8, z9, z10])
      ⟨hL, 0, none, none, none, none, none, none, none, none, none, Nat.le_refl _, hSt2, rfl⟩ (fun i σ H' _ p => SqL.of p.1) ?_ ?_
    · rintro i x σ H3 hi ⟨hL3, kk, z2, z3, z4, z5, z6, z7, z8, z9, z10, hkk, hSt3, rfl⟩
      have hi60 : i < 60 := by
        have := (List.getElem?_eq_some_iff.mp hi).1
        rw [List.length_map] at this
        omega
      obtain ⟨y, rfl⟩ : ∃ y, x = V.int y := by
        rw [List.getElem?_map] at hi
        cases e : cells[i]? with
        | none => rw [e] at hi; cases hi
        | some y => rw [e] at hi; exact ⟨y, (Option.some.inj hi).symm⟩
      -- n = next(state)
      refine ⟨_, rfl, st, a, kk, ns, rfl, hSt3, by omega, by omega, fun n H4 hn0 hn1 k4 hSt4 => ?_⟩
      have hL4 := k4 _ _ hL3 nls
      -- the level
      obtain ⟨L, hL60, hlev⟩ := level_at hn0
      refine ⟨_, rfl, _, _, rfl, rfl, ⟨by decide, by decide⟩, _, _, rfl, rfl, by (show (0 : Int) < _; first | decide | omega), _, rfl, _, _, rfl, rfl, ⟨by decide, by decide⟩, _, _, rfl, rfl, by (show (0 : Int) < _; first | decide | omega), _, rfl, _, _, rfl, rfl, ⟨by decide, by decide⟩, _, _, rfl, rfl, by (show (0 : Int) < _; first | decide | omega), small (by show 4 ≤ 100000; decide), fun l5 hl5 => ?_⟩
      refine ⟨_, rfl, _, _, rfl, rfl, by (show (0 : Int) < _; first | decide | omega), _, _, _, _, rfl, rfl, SqL.of upd_same, hlev, ?_⟩
      have hSt5 := hSt4.keep (same_new (o := .lst [V.int (n / 5 % 61), V.int (n / 5 % 12), V.int 60, V.int (n / 5 % 4)]) hl5)
      have hL5 := same_new (o := .lst [V.int (n / 5 % 61), V.int (n / 5 % 12), V.int 60, V.int (n / 5 % 4)]) hl5 _ _ hL4
      generalize upd H4 l5 (.lst [V.int (n / 5 % 61), V.int (n / 5 % 12), V.int 60, V.int (n / 5 % 4)]) = H5 at *
      -- the while
      refine ⟨fun σ' H' => ∃ most : Int, 0 ≤ most ∧ most ≤ 300 ∧ H' = H5 ∧ σ' = [some (.ref a), some (.ref st), some (.int y), some (.int n), some (.int (L : Int)), some (.int most), z6, z7, z8, z9, z10], ?_, ?_⟩
      · refine ⟨fun m σ H' => ∃ most : Int, m = (300 - most).toNat ∧ 0 ≤ most ∧ most ≤ 300 ∧ H' = H5 ∧ σ = [some (.ref a), some (.ref st), some (.int y), some (.int n), some (.int (L : Int)), some (.int most), z6, z7, z8, z9, z10], ⟨_, 0, rfl, by decide, by decide, rfl, rfl⟩, ?_⟩
        rintro m σ H' ⟨most, rfl, hm0, hm1, hH, rfl⟩
        refine ⟨_, rfl, _, _, rfl, rfl, _, rfl, ?_⟩
        refine ite2d (fun hlt => ?_) (fun hge => ?_)
        · refine ⟨_, rfl, _, rfl, _, _, rfl, rfl, L, _, rfl, hL60, by omega, _, rfl, ?_⟩
          refine iteOf (fun hy => ?_) (fun hno => ?_)
          · refine ⟨fun σ' H' => ∃ m', m' < (300 - most).toNat ∧ ∃ most : Int, m' = (300 - most).toNat ∧ 0 ≤ most ∧ most ≤ 300 ∧ H' = H5 ∧ σ' = [some (.ref a), some (.ref st), some (.int y), some (.int n), some (.int (L : Int)), some (.int most), z6, z7, z8, z9, z10], fun _ _ h => h, ?_⟩
            exact ⟨_, rfl, _, _, rfl, rfl, _, (by omega : (300 - (most + 1)).toNat < (300 - most).toNat), most + 1, rfl, by omega, by omega, hH, rfl⟩
          · exact ⟨most, hm0, hm1, hH, rfl⟩
        · exact ⟨most, hm0, hm1, hH, rfl⟩
      rintro σ H' ⟨most, hm0, hm1, hH, rfl⟩
      subst hH
      -- any_one
      have c1 : ((y % 2147483647 + n) * 268435399).natAbs < 2 ^ (32 + 30) := wide_lt (by omega) (by decide)
      refine ⟨_, rfl, _, _, rfl, rfl, by (show (0 : Int) < _; first | decide | omega), _, rfl, _, _, rfl, rfl, _, _, rfl, rfl, wide_mul (a := 32) (b := 30) (by omega) (by decide) (by decide) (by decide) (by decide), ?_⟩
      refine ⟨_, rfl, st, a, kk + 1, ns, rfl, hSt5, by omega, by omega, fun n2 H6 hn20 hn21 k6 hSt6 => ?_⟩
      have hL6 := k6 _ _ hL5 nls
      refine ⟨_, _, rfl, rfl, _, _, rfl, rfl, wide_mul (a := 64) (b := 30) (by omega) (by decide) (by decide) (by decide) (by decide), _, _, rfl, rfl, ⟨by decide, by decide, by decide⟩, _, _, rfl, rfl, by show (0 : Int) < 1 * 2 ^ 60; decide, ?_⟩
      have hany : ∃ A1 : Int, ((y % 2147483647 + n) * 268435399 + n2) * 268435399 % (1 * 2 ^ (60 : Int).toNat) = A1 ∧ 0 ≤ A1 ∧ A1 < 2 ^ 60 := ⟨_, rfl, Int.emod_nonneg _ (by decide), Int.emod_lt_of_pos _ (by decide)⟩
      obtain ⟨A1, hA, hA0, hA1⟩ := hany
      change tSeq _ _ _ ([some (.ref a), some (.ref st), some (.int y), some (.int n), some (.int (L : Int)), some (.int most), some (.int (((y % 2147483647 + n) * 268435399 + n2) * 268435399 % (1 * 2 ^ (60 : Int).toNat))), z7, z8, z9, z10] : St) H6
      rw [hA]
      -- the tuple
      refine ⟨_, rfl, _, rfl, _, _, rfl, rfl, _, rfl, _, _, rfl, rfl, ⟨by decide, by decide⟩, _, _, rfl, rfl, by (show (0 : Int) < _; first | decide | omega), _, rfl, small (by show 5 ≤ 100000; decide), fun t7 ht7 => ⟨t7, rfl, ⟨_, SqT.of upd_same⟩, ?_⟩⟩
      have hSt7 := hSt6.keep (same_new (o := .tup [V.int most, V.int (most + 1), V.int (n / 500 % 40), V.int A1, V.int 0]) ht7)
      have hL7 := same_new (o := .tup [V.int most, V.int (most + 1), V.int (n / 500 % 40), V.int A1, V.int 0]) ht7 _ _ hL6
      have hT7 : (upd H6 t7 (.tup [V.int most, V.int (most + 1), V.int (n / 500 % 40), V.int A1, V.int 0])) t7 = some (.tup [V.int most, V.int (most + 1), V.int (n / 500 % 40), V.int A1, V.int 0]) := upd_same
      generalize upd H6 t7 (.tup [V.int most, V.int (most + 1), V.int (n / 500 % 40), V.int A1, V.int 0]) = H7 at *
      have hws : ∀ (i : Nat) (x : V), [V.int most, V.int (most + 1), V.int (n / 500 % 40), V.int A1, V.int 0][i]? = some x → ∃ m : Int, x = .int m ∧ 0 ≤ m ∧ m < 2 ^ 60 := fun i x hx => by
        have hm := List.mem_of_getElem? hx
        simp only [List.mem_cons, List.not_mem_nil, or_false] at hm
        rcases hm with rfl | rfl | rfl | rfl | rfl
        · exact ⟨_, rfl, by omega, by omega⟩
        · exact ⟨_, rfl, by omega, by omega⟩
        · exact ⟨_, rfl, by omega, by omega⟩
        · exact ⟨_, rfl, by omega, by omega⟩
        · exact ⟨_, rfl, by omega, by omega⟩
      generalize [V.int most, V.int (most + 1), V.int (n / 500 % 40), V.int A1, V.int 0] = ws at *
      refine for_tup (K := K) (a := t7) (xs := ws) (fun i σ H' => H' = H7 ∧ ∃ z7 z8, σ = [some (.ref a), some (.ref st), some (.int y), some (.int n), some (.int (L : Int)), some (.int most), some (.int A1), z7, z8, z9, z10])
        ⟨rfl, _, _, rfl⟩ (fun i σ H' _ p => by rw [p.1]; exact SqT.of hT7) ?_ ?_
      · rintro j x σ H' hj ⟨hH, z7, z8, rfl⟩
        obtain ⟨m, rfl, hm0, hm1⟩ := hws j x hj
        subst hH
        refine ⟨_, rfl, _, rfl, L, m, rfl, hL60, hm0, by omega, ?_⟩
        refine ⟨_, rfl, _, _, _, _, true, rfl, .ty "bool", .base (.bl _), kit_ty (by decide +kernel), true, rfl, ?_⟩
        refine iteF ?_
        refine ⟨_, rfl, _, rfl, _, rfl, L, m, rfl, hL60, by omega, rfl, _, rfl, ?_⟩
        refine iteNS rfl ?_
        exact ⟨rfl, _, _, rfl⟩
      · rintro σ H' ⟨hH, z7, z8, rfl⟩
        subst hH
        -- start
        refine ⟨_, rfl, _, rfl, L, A1, rfl, hL60, hA0, hA1, ?_⟩
        have hp := two_pow_pos L
        have hS0 : 0 ≤ A1 / 2 ^ L * 2 ^ L := Int.mul_nonneg (Int.ediv_nonneg hA0 (Int.le_of_lt hp)) (Int.le_of_lt hp)
        have hS1 : A1 / 2 ^ L * 2 ^ L ≤ A1 := Int.ediv_mul_le _ (by omega)
        have hS2 : A1 < A1 / 2 ^ L * 2 ^ L + 2 ^ L := by
          have := Int.lt_ediv_add_one_mul_self A1 hp
          rw [Int.add_mul, Int.one_mul] at this
          exact this
        have hS3 : A1 / 2 ^ L * 2 ^ L % 2 ^ L = 0 := Int.mul_emod_left _ _
        generalize A1 / 2 ^ L * 2 ^ L = S at *
        refine ⟨_, rfl, S, rfl, _, rfl, ?_⟩
        refine iteF ?_
        refine ⟨_, rfl, _, rfl, _, _, rfl, rfl, ⟨by omega, by omega, by decide⟩, _, _, rfl, rfl, by show (0 : Int) < 1 * 2 ^ (L : Int).toNat; rw [shl_one]; exact hp, rfl, _, rfl, ?_⟩
        refine iteNS (by show V.int (S % (1 * 2 ^ (L : Int).toNat)) = V.int 0; rw [shl_one, hS3]) ?_
        refine ⟨_, rfl, _, rfl, _, _, rfl, rfl, _, rfl, ?_⟩
        refine iteTd hS1 ?_
        refine ⟨_, rfl, _, rfl, _, _, rfl, rfl, ⟨by omega, by omega, by decide⟩, _, _, rfl, rfl, _, _, rfl, rfl, _, rfl, ?_⟩
        have hD : decide (A1 < S + 1 * 2 ^ (L : Int).toNat) = true := decide_eq_true (by rw [shl_one]; exact hS2)
        dsimp only
        rw [hD]
        refine iteF ?_
        -- the two spreads
        refine ⟨_, rfl, _, rfl, small (by show 2 ≤ 100000; decide), fun t8 ht8 => ⟨t8, rfl, ⟨_, SqT.of upd_same⟩, ?_⟩⟩
        have hSt8 := hSt7.keep (same_new (o := .tup [V.int S, V.int A1]) ht8)
        have hL8 := same_new (o := .tup [V.int S, V.int A1]) ht8 _ _ hL7
        have hT8 : (upd H' t8 (.tup [V.int S, V.int A1])) t8 = some (.tup [V.int S, V.int A1]) := upd_same
        generalize upd H' t8 (.tup [V.int S, V.int A1]) = H8 at *
        refine for_tup (K := K) (a := t8) (xs := [V.int S, V.int A1]) (fun i σ H' => Same H8 H' ∧ ∃ z10, σ = [some (.ref a), some (.ref st), some (.int y), some (.int n), some (.int (L : Int)), some (.int most), some (.int A1), z7, z8, some (.int S), z10])
          ⟨Same.refl _, _, rfl⟩ (fun i σ H' _ p => SqT.of (p.1 _ _ hT8)) ?_ ?_
        · rintro j x σ H9 hj ⟨q9, z10, rfl⟩
          have hx : ∃ m : Int, x = .int m ∧ 0 ≤ m ∧ m < 2 ^ 60 := by
            have hm := List.mem_of_getElem? hj
            simp only [List.mem_cons, List.not_mem_nil, or_false] at hm
            rcases hm with rfl | rfl
            · exact ⟨_, rfl, by omega, by omega⟩
            · exact ⟨_, rfl, by omega, by omega⟩
          obtain ⟨fs, rfl, hf0, hf1⟩ := hx
          obtain ⟨m, hm, hm1, hm2⟩ := share_num (L := L) hn0
          refine ⟨_, rfl, _, rfl, _, rfl, _, _, rfl, _, _, rfl, rfl, ⟨by omega, by show (if (10 : Int) < (L : Int) then (10 : Int) else (L : Int)) ≤ _; omega, by decide⟩, _, rfl, _, _, rfl, rfl, ⟨by decide, by decide⟩, _, _, rfl, rfl, by (show (0 : Int) < _; first | decide | omega), _, _, rfl, L, fs, _, m, rfl, hm, hL60, hf0, hf1, hm1, hm2, fun H10 q10 => ?_⟩
          refine ⟨_, rfl, ?_⟩
          refine iteF ?_
          exact ⟨q9.trans q10, _, rfl⟩
        · rintro σ H9 ⟨q9, z10, rfl⟩
          exact ⟨q9 _ _ hL8, kk + 2, _, _, _, _, _, _, _, _, _, by omega, hSt8.keep q9, rfl⟩
    · rintro σ H3 ⟨hL3, kk, z2, z3, z4, z5, z6, z7, z8, z9, z10, hkk, hSt3, rfl⟩
      -- len(spread(11, 0, 1024)) != 1024 or is_too_full(60, 1 << 60) is not True
      refine ⟨11, 0, 1024, rfl, by decide, by decide, by decide, by decide, by decide, fun p1 hp1 => ⟨_, _, rfl, .inl (SqL.of upd_same), rfl, _, rfl, ?_⟩⟩
      refine iteNS (by rw [List.length_map, spread_len]; rfl) ?_
      refine ⟨_, _, rfl, rfl, ⟨by decide, by decide, by decide⟩, 60, 1 * 2 ^ (60 : Int).toNat, rfl, by decide, by decide, by decide, _, _, rfl, rfl, _, rfl, ?_⟩
      refine iteNS (by decide +kernel) ?_
      -- spread(3, 5, 2) != [5, 9] or spread(3, 8, 2) != [8, 12]
      refine ⟨3, 5, 2, rfl, by decide, by decide, by decide, by decide, by decide, fun p2 hp2 => ⟨small (by show 2 ≤ 100000; decide), fun p3 hp3 => ?_⟩⟩
      have n23 : p2 ≠ p3 := fun e => by rw [← e, upd_same] at hp3; cases hp3
      refine ⟨_, _, .lst (SqL.of (by rw [upd_ne n23, upd_same])) (dp_ints _), .lst (SqL.of upd_same) (dp_ints [5, 9]), shaped_ints _, shaped_ints _, _, rfl, ?_⟩
      rw [show spreadL 3 5 2 = [5, 9] by decide +kernel, eqv_ints]
      refine iteF ?_
      refine ⟨3, 8, 2, rfl, by decide, by decide, by decide, by decide, by decide, fun p4 hp4 => ⟨small (by show 2 ≤ 100000; decide), fun p5 hp5 => ?_⟩⟩
      have n45 : p4 ≠ p5 := fun e => by rw [← e, upd_same] at hp5; cases hp5
      refine ⟨_, _, .lst (SqL.of (by rw [upd_ne n45, upd_same])) (dp_ints _), .lst (SqL.of upd_same) (dp_ints [8, 12]), shaped_ints _, shaped_ints _, _, rfl, ?_⟩
      rw [show spreadL 3 8 2 = [8, 12] by decide +kernel, eqv_ints]
      refine iteF ?_
      refine ⟨0, 1, rfl, by decide, by decide, by decide, _, _, rfl, rfl, _, rfl, ?_⟩
      refine iteTd (by decide +kernel) ?_
      refine ⟨0, 2, rfl, by decide, by decide, by decide, _, _, rfl, rfl, ?_⟩
      have e : decide (decide ((4 : Int) ^ 0 < 2 * 3 ^ 0) = true) = true := by decide +kernel
      change Q (.bl (decide (decide ((4 : Int) ^ 0 < 2 * 3 ^ 0) = true))) _
      rw [e]
      exact k _
theorem ok_all (T : Txt K mg) {f : Addr} {fd : FuncData} (F : Fun K "law" "law" s_law f fd) : FnOk P w K mg base CX0 4 f fd ["_law_script"] (spLaw K) :=
  have g1 : Cal P w K mg base 1 "check_within" spCheck [] := ok_check_within T
  have g2 : Cal P w K mg base 1 "power" spPower [] := ok_power T
  have g3 : Cal P w K mg base 1 "_law_whole" spWhole [] := ok__law_whole T
  have g4 : Cal P w K mg base 2 "spread" spSpread [] := ok_spread T g1
  ok_law T g4 (ok_is_too_full T g1 g2) (ok_stretch_at T g1) (ok__law_next T) (ok__law_too_many T) g3 (ok__law_spread_right T g4 g3) F

end
theorem all_mk {l : PySem.W.OpenLaw} {w : World} {K : PySem.W.Frag} {h : Heap} {mg : Str → Option Value} {fa : Addr} {f1 : Addr} {od1 an1 : Option Addr} {sl1 : Array (Option Value)} {oc1 kV1 dc1 pm1 cd1 ct1 : Value} {f2 : Addr} {od2 an2 : Option Addr} {sl2 : Array (Option Value)} {oc2 kV2 dc2 pm2 cd2 ct2 : Value} {f3 : Addr} {od3 an3 : Option Addr} {sl3 : Array (Option Value)} {oc3 kV3 dc3 pm3 cd3 ct3 : Value} {f4 : Addr} {od4 an4 : Option Addr} {sl4 : Array (Option Value)} {oc4 kV4 dc4 pm4 cd4 ct4 : Value} {f5 : Addr} {od5 an5 : Option Addr} {sl5 : Array (Option Value)} {oc5 kV5 dc5 pm5 cd5 ct5 : Value} {f6 : Addr} {od6 an6 : Option Addr} {sl6 : Array (Option Value)} {oc6 kV6 dc6 pm6 cd6 ct6 : Value} {f7 : Addr} {od7 an7 : Option Addr} {sl7 : Array (Option Value)} {oc7 kV7 dc7 pm7 cd7 ct7 : Value} {f8 : Addr} {od8 an8 : Option Addr} {sl8 : Array (Option Value)} {oc8 kV8 dc8 pm8 cd8 ct8 : Value} {f9 : Addr} {od9 an9 : Option Addr} {sl9 : Array (Option Value)} {oc9 kV9 dc9 pm9 cd9 ct9 : Value} {f10 : Addr} {od10 an10 : Option Addr} {sl10 : Array (Option Value)} {oc10 kV10 dc10 pm10 cd10 ct10 : Value} {t_MOST_LEVEL : Tok} {t_MOST_SPREAD : Tok} (X : K.In h) (G : h.Ns mainGlobals mg) (hfa : mg "law" = some (.ref fa))
    (a1 : PySem.W.nsIn K mainGlobals "check_within" = some (some (.ref f1)))
    (l1 : K.lookup f1 = some ⟨oc1, od1, .func (PySem.W.fnOf "check_within" "check_within" (defArgs s_check_within) (defBody s_check_within) (defScope s_check_within) .none kV1 dc1 pm1 an1 cd1 ct1), sl1⟩)
    (c1 : PySem.W.codeIn K cd1 "check_within" = true)
    (k1 : PySem.W.keepIn K (.ref f1) = true)
    (a2 : PySem.W.nsIn K mainGlobals "is_too_full" = some (some (.ref f2)))
    (l2 : K.lookup f2 = some ⟨oc2, od2, .func (PySem.W.fnOf "is_too_full" "is_too_full" (defArgs s_is_too_full) (defBody s_is_too_full) (defScope s_is_too_full) .none kV2 dc2 pm2 an2 cd2 ct2), sl2⟩)
    (c2 : PySem.W.codeIn K cd2 "is_too_full" = true)
    (k2 : PySem.W.keepIn K (.ref f2) = true)
    (a3 : PySem.W.nsIn K mainGlobals "stretch_at" = some (some (.ref f3)))
    (l3 : K.lookup f3 = some ⟨oc3, od3, .func (PySem.W.fnOf "stretch_at" "stretch_at" (defArgs s_stretch_at) (defBody s_stretch_at) (defScope s_stretch_at) .none kV3 dc3 pm3 an3 cd3 ct3), sl3⟩)
    (c3 : PySem.W.codeIn K cd3 "stretch_at" = true)
    (k3 : PySem.W.keepIn K (.ref f3) = true)
    (a4 : PySem.W.nsIn K mainGlobals "spread" = some (some (.ref f4)))
    (l4 : K.lookup f4 = some ⟨oc4, od4, .func (PySem.W.fnOf "spread" "spread" (defArgs s_spread) (defBody s_spread) (defScope s_spread) .none kV4 dc4 pm4 an4 cd4 ct4), sl4⟩)
    (c4 : PySem.W.codeIn K cd4 "spread" = true)
    (k4 : PySem.W.keepIn K (.ref f4) = true)
    (a5 : PySem.W.nsIn K mainGlobals "power" = some (some (.ref f5)))
    (l5 : K.lookup f5 = some ⟨oc5, od5, .func (PySem.W.fnOf "power" "power" (defArgs s_power) (defBody s_power) (defScope s_power) .none kV5 dc5 pm5 an5 cd5 ct5), sl5⟩)
    (c5 : PySem.W.codeIn K cd5 "power" = true)
    (k5 : PySem.W.keepIn K (.ref f5) = true)
    (a6 : PySem.W.nsIn K mainGlobals "_law_next" = some (some (.ref f6)))
    (l6 : K.lookup f6 = some ⟨oc6, od6, .func (PySem.W.fnOf "_law_next" "_law_next" (defArgs s__law_next) (defBody s__law_next) (defScope s__law_next) .none kV6 dc6 pm6 an6 cd6 ct6), sl6⟩)
    (c6 : PySem.W.codeIn K cd6 "_law_next" = true)
    (k6 : PySem.W.keepIn K (.ref f6) = true)
    (a7 : PySem.W.nsIn K mainGlobals "_law_too_many" = some (some (.ref f7)))
    (l7 : K.lookup f7 = some ⟨oc7, od7, .func (PySem.W.fnOf "_law_too_many" "_law_too_many" (defArgs s__law_too_many) (defBody s__law_too_many) (defScope s__law_too_many) .none kV7 dc7 pm7 an7 cd7 ct7), sl7⟩)
    (c7 : PySem.W.codeIn K cd7 "_law_too_many" = true)
    (k7 : PySem.W.keepIn K (.ref f7) = true)
    (a8 : PySem.W.nsIn K mainGlobals "_law_whole" = some (some (.ref f8)))
    (l8 : K.lookup f8 = some ⟨oc8, od8, .func (PySem.W.fnOf "_law_whole" "_law_whole" (defArgs s__law_whole) (defBody s__law_whole) (defScope s__law_whole) .none kV8 dc8 pm8 an8 cd8 ct8), sl8⟩)
    (c8 : PySem.W.codeIn K cd8 "_law_whole" = true)
    (k8 : PySem.W.keepIn K (.ref f8) = true)
    (a9 : PySem.W.nsIn K mainGlobals "_law_spread_right" = some (some (.ref f9)))
    (l9 : K.lookup f9 = some ⟨oc9, od9, .func (PySem.W.fnOf "_law_spread_right" "_law_spread_right" (defArgs s__law_spread_right) (defBody s__law_spread_right) (defScope s__law_spread_right) .none kV9 dc9 pm9 an9 cd9 ct9), sl9⟩)
    (c9 : PySem.W.codeIn K cd9 "_law_spread_right" = true)
    (k9 : PySem.W.keepIn K (.ref f9) = true)
    (a10 : PySem.W.nsIn K mainGlobals "law" = some (some (.ref f10)))
    (l10 : K.lookup f10 = some ⟨oc10, od10, .func (PySem.W.fnOf "law" "law" (defArgs s_law) (defBody s_law) (defScope s_law) .none kV10 dc10 pm10 an10 cd10 ct10), sl10⟩)
    (c10 : PySem.W.codeIn K cd10 "law" = true)
    (k10 : PySem.W.keepIn K (.ref f10) = true)
    (g_MOST_LEVEL : PySem.W.nsIn K mainGlobals "MOST_LEVEL" = some (some (.int 60 t_MOST_LEVEL)))
    (g_MOST_SPREAD : PySem.W.nsIn K mainGlobals "MOST_SPREAD" = some (some (.int 1024 t_MOST_SPREAD)))
    (z_type : PySem.W.nsIn K mainGlobals "type" = some none)
    (z_int : PySem.W.nsIn K mainGlobals "int" = some none)
    (z_bool : PySem.W.nsIn K mainGlobals "bool" = some none)
    (z_len : PySem.W.nsIn K mainGlobals "len" = some none)
    (z_range : PySem.W.nsIn K mainGlobals "range" = some none)
    (z_min : PySem.W.nsIn K mainGlobals "min" = some none)
    (z_isinstance : PySem.W.nsIn K mainGlobals "isinstance" = some none)
    (z_list : PySem.W.nsIn K mainGlobals "list" = some none)
    (z_all : PySem.W.nsIn K mainGlobals "all" = some none)
    (z_enumerate : PySem.W.nsIn K mainGlobals "enumerate" = some none)
    : ∃ fd : FuncData, (∀ (s : Shared) (v : Value), BindsTo s fd ⟨[v], []⟩ [("_law_script", v)]) ∧ ∀ base : Heap, K.In base → base.Ns mainGlobals mg → FnOk l.prog w K mg base CX0 4 fa fd ["_law_script"] (spLaw K) := by
  have e := hfa.symm.trans (PySem.W.mg_of X G a10)
  cases e
  have T : Txt K mg := {
    d_check_within := ⟨_, _, fun_mk (st := s_check_within) l1 c1 k1, PySem.W.mg_of X G a1, (fun_mk (st := s_check_within) l1 c1 k1).binds (ps := ["value", "least", "most"]) fun _ _ _ _ _ _ us hl => match us, hl with | [_, _, _], _ => rfl⟩,
    d_is_too_full := ⟨_, _, fun_mk (st := s_is_too_full) l2 c2 k2, PySem.W.mg_of X G a2, (fun_mk (st := s_is_too_full) l2 c2 k2).binds (ps := ["level", "many"]) fun _ _ _ _ _ _ us hl => match us, hl with | [_, _], _ => rfl⟩,
    d_stretch_at := ⟨_, _, fun_mk (st := s_stretch_at) l3 c3 k3, PySem.W.mg_of X G a3, (fun_mk (st := s_stretch_at) l3 c3 k3).binds (ps := ["level", "mark"]) fun _ _ _ _ _ _ us hl => match us, hl with | [_, _], _ => rfl⟩,
    d_spread := ⟨_, _, fun_mk (st := s_spread) l4 c4 k4, PySem.W.mg_of X G a4, (fun_mk (st := s_spread) l4 c4 k4).binds (ps := ["level", "start", "many"]) fun _ _ _ _ _ _ us hl => match us, hl with | [_, _, _], _ => rfl⟩,
    d_power := ⟨_, _, fun_mk (st := s_power) l5 c5 k5, PySem.W.mg_of X G a5, (fun_mk (st := s_power) l5 c5 k5).binds (ps := ["base", "times"]) fun _ _ _ _ _ _ us hl => match us, hl with | [_, _], _ => rfl⟩,
    d__law_next := ⟨_, _, fun_mk (st := s__law_next) l6 c6 k6, PySem.W.mg_of X G a6, (fun_mk (st := s__law_next) l6 c6 k6).binds (ps := ["_law_state"]) fun _ _ _ _ _ _ us hl => match us, hl with | [_], _ => rfl⟩,
    d__law_too_many := ⟨_, _, fun_mk (st := s__law_too_many) l7 c7 k7, PySem.W.mg_of X G a7, (fun_mk (st := s__law_too_many) l7 c7 k7).binds (ps := ["_law_level", "_law_many"]) fun _ _ _ _ _ _ us hl => match us, hl with | [_, _], _ => rfl⟩,
    d__law_whole := ⟨_, _, fun_mk (st := s__law_whole) l8 c8 k8, PySem.W.mg_of X G a8, (fun_mk (st := s__law_whole) l8 c8 k8).binds (ps := ["_law_thing"]) fun _ _ _ _ _ _ us hl => match us, hl with | [_], _ => rfl⟩,
    d__law_spread_right := ⟨_, _, fun_mk (st := s__law_spread_right) l9 c9 k9, PySem.W.mg_of X G a9, (fun_mk (st := s__law_spread_right) l9 c9 k9).binds (ps := ["_law_level", "_law_start", "_law_many"]) fun _ _ _ _ _ _ us hl => match us, hl with | [_, _, _], _ => rfl⟩,
    d_law := ⟨_, _, fun_mk (st := s_law) l10 c10 k10, PySem.W.mg_of X G a10, (fun_mk (st := s_law) l10 c10 k10).binds (ps := ["_law_script"]) fun _ _ _ _ _ _ us hl => match us, hl with | [_], _ => rfl⟩,
    g_MOST_LEVEL := ⟨_, PySem.W.mg_of X G g_MOST_LEVEL, ⟨_, rfl⟩⟩,
    g_MOST_SPREAD := ⟨_, PySem.W.mg_of X G g_MOST_SPREAD, ⟨_, rfl⟩⟩,
    n_type := PySem.W.mg_none_of X G z_type,
    n_int := PySem.W.mg_none_of X G z_int,
    n_bool := PySem.W.mg_none_of X G z_bool,
    n_len := PySem.W.mg_none_of X G z_len,
    n_range := PySem.W.mg_none_of X G z_range,
    n_min := PySem.W.mg_none_of X G z_min,
    n_isinstance := PySem.W.mg_none_of X G z_isinstance,
    n_list := PySem.W.mg_none_of X G z_list,
    n_all := PySem.W.mg_none_of X G z_all,
    n_enumerate := PySem.W.mg_none_of X G z_enumerate }
  exact ⟨PySem.W.fnOf "law" "law" (defArgs s_law) (defBody s_law) (defScope s_law) .none kV10 dc10 pm10 an10 cd10 ct10, fun s v => .of_eq rfl, fun base _ _ => ok_all T (fun_mk (st := s_law) l10 c10 k10)⟩
theorem walk {l : PySem.W.OpenLaw} {q : Program} {loose : List Str} {XP : (Str → Option Value) → Heap → Prop} {YP : World → Heap → Prop} {d : DefRec} {K : Params → PySem.W.Frag} (hn : l.most = some 63) (hdf : d.params.defaults = [])
    (hY : ∀ (w : World) (h : Heap), YP w h → (K w.params).In h)
    (F : ∀ (w : World) (mg : Str → Option Value) (fa : Addr) (h : Heap), (K w.params).In h → h.Ns mainGlobals mg → mg d.name = some (.ref fa) →
      ∃ fd : FuncData, (∀ (s : Shared) (u : Value), BindsTo s fd ⟨[u], []⟩ [("_law_script", u)]) ∧ ∀ base : Heap, (K w.params).In base → base.Ns mainGlobals mg → FnOk l.prog w (K w.params) mg base CX0 4 fa fd ["_law_script"] (spLaw (K w.params))) :
    PySem.W.WalkO q loose XP YP l.row.toRowW d [] (fun f vs => PySem.call f vs) :=
  L2.walk_of (n := 63) (k := 4) (x := "_law_script") (CX := fun _ => CX0) (sp := fun w => spLaw (K w.params)) hn (by decide) hdf ⟨rfl, by decide, by decide⟩ hY F (fun _ _ a ns hl _ hS => ⟨a, ns, rfl, hS, hl, fun _ => rfl⟩) fun _ _ _ _ _ z => z
end Seat
open PySem PySem.W PyProof.Rows in
set_option maxRecDepth 100000 in
set_option maxHeartbeats 0 in
theorem PySem.Challenge.cw_seatmarks_k01_stretches_holds : PySem.Challenge.rw_seatmarks_k01_stretches.Holds := by
  w_on; o_law; k_head; (case hw => w_witness2)
  k_fill
  refine Seat.walk (l := PySem.Challenge.rw_seatmarks_k01_stretches) rfl rfl (fun w h Y => PySem.W.kIn_of Y) ?F
  case F =>
    intro w mg fa h KX G hmg
    refine' Seat.all_mk KX G hmg ?a1 ?l1 ?c1 ?k1 ?a2 ?l2 ?c2 ?k2 ?a3 ?l3 ?c3 ?k3 ?a4 ?l4 ?c4 ?k4 ?a5 ?l5 ?c5 ?k5 ?a6 ?l6 ?c6 ?k6 ?a7 ?l7 ?c7 ?k7 ?a8 ?l8 ?c8 ?k8 ?a9 ?l9 ?c9 ?k9 ?a10 ?l10 ?c10 ?k10 ?g_MOST_LEVEL ?g_MOST_SPREAD ?z_type ?z_int ?z_bool ?z_len ?z_range ?z_min ?z_isinstance ?z_list ?z_all ?z_enumerate
    (case a1 => k_is)
    (case l1 => k_is)
    (case c1 => k_is)
    (case k1 => k_is)
    (case a2 => k_is)
    (case l2 => k_is)
    (case c2 => k_is)
    (case k2 => k_is)
    (case a3 => k_is)
    (case l3 => k_is)
    (case c3 => k_is)
    (case k3 => k_is)
    (case a4 => k_is)
    (case l4 => k_is)
    (case c4 => k_is)
    (case k4 => k_is)
    (case a5 => k_is)
    (case l5 => k_is)
    (case c5 => k_is)
    (case k5 => k_is)
    (case a6 => k_is)
    (case l6 => k_is)
    (case c6 => k_is)
    (case k6 => k_is)
    (case a7 => k_is)
    (case l7 => k_is)
    (case c7 => k_is)
    (case k7 => k_is)
    (case a8 => k_is)
    (case l8 => k_is)
    (case c8 => k_is)
    (case k8 => k_is)
    (case a9 => k_is)
    (case l9 => k_is)
    (case c9 => k_is)
    (case k9 => k_is)
    (case a10 => k_is)
    (case l10 => k_is)
    (case c10 => k_is)
    (case k10 => k_is)
    (case g_MOST_LEVEL => k_is)
    (case g_MOST_SPREAD => k_is)
    (case z_type => k_is)
    (case z_int => k_is)
    (case z_bool => k_is)
    (case z_len => k_is)
    (case z_range => k_is)
    (case z_min => k_is)
    (case z_isinstance => k_is)
    (case z_list => k_is)
    (case z_all => k_is)
    (case z_enumerate => k_is)
