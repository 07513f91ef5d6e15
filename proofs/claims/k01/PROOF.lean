import PyProof.Rows.All
import Wide.All
import OpenK.AllK
import Wide.FinOn
import HandS.ForMost
import HandS.IsInst
import HandS.Defaults
import HandS.Conv
import HandS.Zip
import HandS.Walk
import HandS.MakeKwOnly
import HandS.Codes
import PyProof.ListStr
import PyProof.StrOps2
import HandS.ExcInit
import HandS.ExcIs
import KE.KExcIs
import HandS.TupAny
import HandS.TupMul
import PySem.Challenge.RW_neverboxes_k01_values_and_rows_judged
set_option Elab.async false
set_option linter.all false
set_option maxRecDepth 100000
set_option maxHeartbeats 4000000
namespace Kx
open PySem PySem.Spec PyProof.Rows L2
/-! ### the text -/
def topS (i : Nat) : Stmt := PySem.Challenge.pw_neverboxes_k01_values_and_rows_judged.main.body.getD i (.Pass ⟨0, 0, 0, 0⟩)
abbrev s_is_number : Stmt := topS 3
theorem sc_is_number : FnScope ["value", "least", "most"] ["value", "least", "most"] (defScope s_is_number) := ⟨rfl, rfl, rfl, by decide +kernel, rfl, by decide +kernel, by decide +kernel⟩
abbrev s_is_name : Stmt := topS 4
theorem sc_is_name : FnScope ["value", "letter"] ["value"] (defScope s_is_name) := ⟨rfl, rfl, rfl, by decide +kernel, rfl, by decide +kernel, by decide +kernel⟩
abbrev s_is_sign : Stmt := topS 5
theorem sc_is_sign : FnScope ["value", "signs"] ["value", "signs"] (defScope s_is_sign) := ⟨rfl, rfl, rfl, by decide +kernel, rfl, by decide +kernel, by decide +kernel⟩
abbrev s_is_value : Stmt := topS 6
theorem sc_is_value : FnScope ["value", "signs"] ["value", "signs"] (defScope s_is_value) := ⟨rfl, rfl, rfl, by decide +kernel, rfl, by decide +kernel, by decide +kernel⟩
abbrev s_is_row : Stmt := topS 7
theorem sc_is_row : FnScope ["value", "inputs", "signs", "item"] ["value", "inputs", "signs"] (defScope s_is_row) := ⟨rfl, rfl, rfl, by decide +kernel, rfl, by decide +kernel, by decide +kernel⟩
abbrev s_l_bag : Stmt := topS 12
theorem sc_l_bag : FnScope ["_law_script", "_law_seed", "_law_item"] ["_law_script"] (defScope s_l_bag) := ⟨rfl, rfl, rfl, by decide +kernel, rfl, by decide +kernel, by decide +kernel⟩
abbrev s_l_draw : Stmt := topS 13
theorem sc_l_draw : FnScope ["_law_bag_here", "_law_size", "_law_item", "_law_digit"] ["_law_bag_here", "_law_size"] (defScope s_l_draw) := ⟨rfl, rfl, rfl, by decide +kernel, rfl, by decide +kernel, by decide +kernel⟩
abbrev s_l_of : Stmt := topS 14
theorem sc_l_of : FnScope ["_law_bag_here", "_law_things"] ["_law_bag_here", "_law_things"] (defScope s_l_of) := ⟨rfl, rfl, rfl, by decide +kernel, rfl, by decide +kernel, by decide +kernel⟩
abbrev s_l_like : Stmt := topS 15
theorem sc_l_like : FnScope ["_law_found", "_law_due", "_law_a", "_law_b"] ["_law_found", "_law_due"] (defScope s_l_like) := ⟨rfl, rfl, rfl, by decide +kernel, rfl, by decide +kernel, by decide +kernel⟩
abbrev s_l_any : Stmt := topS 16
theorem sc_l_any : FnScope ["_law_bag_here", "_law_deep_here", "_law_pick", "_law_parts", "_law_k"] ["_law_bag_here", "_law_deep_here"] (defScope s_l_any) := ⟨rfl, rfl, rfl, by decide +kernel, rfl, by decide +kernel, by decide +kernel⟩
abbrev s_l_is_number : Stmt := topS 17
theorem sc_l_is_number : FnScope ["_law_value_here"] ["_law_value_here"] (defScope s_l_is_number) := ⟨rfl, rfl, rfl, by decide +kernel, rfl, by decide +kernel, by decide +kernel⟩
abbrev s_l_is_sign : Stmt := topS 18
theorem sc_l_is_sign : FnScope ["_law_value_here", "_law_base"] ["_law_value_here", "_law_base"] (defScope s_l_is_sign) := ⟨rfl, rfl, rfl, by decide +kernel, rfl, by decide +kernel, by decide +kernel⟩
abbrev s_l_is_value : Stmt := topS 19
theorem sc_l_is_value : FnScope ["_law_value_here", "_law_base"] ["_law_value_here", "_law_base"] (defScope s_l_is_value) := ⟨rfl, rfl, rfl, by decide +kernel, rfl, by decide +kernel, by decide +kernel⟩
abbrev s_l_is_row : Stmt := topS 20
theorem sc_l_is_row : FnScope ["_law_value_here", "_law_n", "_law_base", "_law_v"] ["_law_value_here", "_law_n", "_law_base"] (defScope s_l_is_row) := ⟨rfl, rfl, rfl, by decide +kernel, rfl, by decide +kernel, by decide +kernel⟩
abbrev s_l_is_name : Stmt := topS 21
theorem sc_l_is_name : FnScope ["_law_value_here", "_law_c"] ["_law_value_here"] (defScope s_l_is_name) := ⟨rfl, rfl, rfl, by decide +kernel, rfl, by decide +kernel, by decide +kernel⟩
abbrev s_l_values : Stmt := topS 22
theorem sc_l_values : FnScope ["_law_base"] ["_law_base"] (defScope s_l_values) := ⟨rfl, rfl, rfl, by decide +kernel, rfl, by decide +kernel, by decide +kernel⟩
abbrev s_l_row : Stmt := topS 23
theorem sc_l_row : FnScope ["_law_bag_here", "_law_n", "_law_base", "_law_k"] ["_law_bag_here", "_law_n", "_law_base"] (defScope s_l_row) := ⟨rfl, rfl, rfl, by decide +kernel, rfl, by decide +kernel, by decide +kernel⟩
abbrev s_l_odd_row : Stmt := topS 24
theorem sc_l_odd_row : FnScope ["_law_bag_here", "_law_n", "_law_base", "_law_row_here", "_law_bent", "_law_odd", "_law_longer", "_law_shorter", "_law_some"] ["_law_bag_here", "_law_n", "_law_base"] (defScope s_l_odd_row) := ⟨rfl, rfl, rfl, by decide +kernel, rfl, by decide +kernel, by decide +kernel⟩
abbrev s_l_letters : Stmt := topS 25
theorem sc_l_letters : FnScope ["_law_bag_here", "_law_size", "_law_k"] ["_law_bag_here", "_law_size"] (defScope s_l_letters) := ⟨rfl, rfl, rfl, by decide +kernel, rfl, by decide +kernel, by decide +kernel⟩
abbrev s_l_nearly_name : Stmt := topS 26
theorem sc_l_nearly_name : FnScope ["_law_bag_here", "_law_word", "_law_spot", "_law_odd", "_law_some"] ["_law_bag_here"] (defScope s_l_nearly_name) := ⟨rfl, rfl, rfl, by decide +kernel, rfl, by decide +kernel, by decide +kernel⟩
abbrev s_l_deep : Stmt := topS 27
theorem sc_l_deep : FnScope ["_law_bag_here", "_law_found", "_law_k"] ["_law_bag_here"] (defScope s_l_deep) := ⟨rfl, rfl, rfl, by decide +kernel, rfl, by decide +kernel, by decide +kernel⟩
abbrev s_l_nearly_row : Stmt := topS 28
theorem sc_l_nearly_row : FnScope ["_law_bag_here", "_law_n", "_law_base", "_law_good", "_law_other", "_law_spot", "_law_odd", "_law_bent", "_law_some"] ["_law_bag_here", "_law_n", "_law_base"] (defScope s_l_nearly_row) := ⟨rfl, rfl, rfl, by decide +kernel, rfl, by decide +kernel, by decide +kernel⟩
abbrev s_l_value : Stmt := topS 29
theorem sc_l_value : FnScope ["_law_bag_here", "_law_low", "_law_high", "_law_n", "_law_base", "_law_pick", "_law_ends"] ["_law_bag_here", "_law_low", "_law_high", "_law_n", "_law_base"] (defScope s_l_value) := ⟨rfl, rfl, rfl, by decide +kernel, rfl, by decide +kernel, by decide +kernel⟩
abbrev s_l_asks : Stmt := topS 30
theorem sc_l_asks : FnScope ["_law_thing", "_law_low", "_law_high", "_law_n", "_law_base", "_law_found"] ["_law_thing", "_law_low", "_law_high", "_law_n", "_law_base"] (defScope s_l_asks) := ⟨rfl, rfl, rfl, by decide +kernel, rfl, by decide +kernel, by decide +kernel⟩
abbrev s_l_dues : Stmt := topS 31
theorem sc_l_dues : FnScope ["_law_thing", "_law_low", "_law_high", "_law_n", "_law_base", "_law_found"] ["_law_thing", "_law_low", "_law_high", "_law_n", "_law_base"] (defScope s_l_dues) := ⟨rfl, rfl, rfl, by decide +kernel, rfl, by decide +kernel, by decide +kernel⟩
abbrev s_law : Stmt := topS 32
theorem sc_law : FnScope ["_law_script", "_law_bag_here", "_law_kept", "_law_lap", "_law_base", "_law_n", "_law_low", "_law_high", "_law_thing", "_law_dues_here", "_law_word", "_law_good"] ["_law_script"] (defScope s_law) := ⟨rfl, rfl, rfl, by decide +kernel, rfl, by decide +kernel, by decide +kernel⟩
/-- a def as it stands behind the top -/
structure DefAt (K : PySem.W.Frag) (mg : Str → Option Value) (x : Str) (st : Stmt) (ps : List Str) where
  f : Addr
  d : FuncData
  F : Fun K x x st f d
  b : Binds K d ps []
  g : mg x = some (.ref f)
theorem DefAt.kp {K : PySem.W.Frag} {mg : Str → Option Value} {x : Str} {st : Stmt} {ps : List Str} (T : DefAt K mg x st ps) : PySem.W.keepIn K (.ref T.f) = true := T.F.kp
/-- a def with keyword-only defaults -/
structure DefD (K : PySem.W.Frag) (mg : Str → Option Value) (x : Str) (st : Stmt) (kws : List (Str × V)) where
  f : Addr
  d : FuncData
  F : FunD K x x (defArgs st) (defBody st) (defScope st) [] kws f d
  g : mg x = some (.ref f)
/-! ### heaps: all but the bag stays -/
def cut (b : Addr) (H : Hp) : Hp := fun a => if a = b then none else H a
theorem cut_at {b : Addr} {H : Hp} : cut b H b = none := if_pos rfl
theorem cut_ne {b a : Addr} {H : Hp} (h : a ≠ b) : cut b H a = H a := if_neg h
theorem cut_some {b a : Addr} {H : Hp} {o : HO} (h : cut b H a = some o) : H a = some o ∧ a ≠ b := by
  by_cases e : a = b
  · subst e
    rw [cut_at] at h
    cases h
  · rw [cut_ne e] at h
    exact ⟨h, e⟩
theorem cut_of {b a : Addr} {H : Hp} {o : HO} (h : H a = some o) (e : a ≠ b) : cut b H a = some o := by rw [cut_ne e]; exact h
theorem cut_out {b : Addr} {H : Hp} : Same (cut b H) H := fun a o h => (cut_some h).1
/-- the law's own store of numbers: where it stands, its items -/
structure BagId where
  b : Addr
  p : Addr
  ns : List Int
structure Bag (B : BagId) (H : Hp) : Prop where
  ne : B.p ≠ B.b
  items : H B.p = some (.lst (B.ns.map V.int))
  ex : ∃ (i g s c : Int), H B.b = some (.lst [.ref B.p, .int i, .int g, .int s, .int c]) ∧ 0 ≤ i ∧ 0 ≤ g ∧ 0 ≤ s ∧ s < 2147483629
structure Ext (B : BagId) (H H' : Hp) : Prop where
  same : Same (cut B.b H) (cut B.b H')
  bag : Bag B H'
theorem Ext.trans {B : BagId} {H H1 H2 : Hp} (a : Ext B H H1) (c : Ext B H1 H2) : Ext B H H2 := ⟨a.same.trans c.same, c.bag⟩
theorem Ext.refl {B : BagId} {H : Hp} (h : Bag B H) : Ext B H H := ⟨Same.refl _, h⟩
theorem same_upd {H : Hp} {p : Addr} {o : HO} (h : H p = none) : Same H (upd H p o) := fun b x e => by
  rw [upd_ne (ne_of_none e h)]
  exact e
theorem Bag.same {B : BagId} {H H' : Hp} (h : Bag B H) (e : Same H H') : Bag B H' := by
  obtain ⟨i, g, s, c, h1, r⟩ := h.ex
  exact ⟨h.ne, e _ _ h.items, i, g, s, c, e _ _ h1, r⟩
theorem Bag.at {B : BagId} {H : Hp} (h : Bag B H) : ∃ o, H B.b = some o := by
  obtain ⟨i, g, s, c, h1, _⟩ := h.ex
  exact ⟨_, h1⟩
theorem Bag.fresh {B : BagId} {H : Hp} {p : Addr} (h : Bag B H) (n : H p = none) : p ≠ B.b := fun e => by
  obtain ⟨o, ho⟩ := h.at
  rw [e, ho] at n
  cases n
theorem same_cut {b : Addr} {H H' : Hp} (e : Same H H') : Same (cut b H) (cut b H') := fun a o h => by
  obtain ⟨h1, h2⟩ := cut_some h
  exact cut_of (e _ _ h1) h2
theorem Ext.of_same {B : BagId} {H H' : Hp} (h : Bag B H) (e : Same H H') : Ext B H H' := ⟨same_cut e, h.same e⟩
theorem Ext.new {B : BagId} {p : Addr} {H : Hp} {o : HO} (h : Bag B H) (n : H p = none) : Ext B H (upd H p o) := .of_same h (same_upd n)
theorem Ext.free {B : BagId} {H H' : Hp} {p : Addr} (e : Ext B H H') (n : H' p = none) : H p = none := by
  cases q : H p with
  | none => rfl
  | some o =>
    have := e.same _ _ (cut_of q (e.bag.fresh n))
    rw [(cut_some this).1] at n
    cases n
/-- a new object beside the bag -/
theorem cut_new {B : BagId} {p : Addr} {H : Hp} {o : HO} (h : Bag B H) (n : H p = none) : cut B.b (upd H p o) p = some o := cut_of upd_same (h.fresh n)
/-- the bag's own list changed -/
theorem Bag.set {B : BagId} {H : Hp} (h : Bag B H) {i g s c : Int} (h1 : 0 ≤ i) (h2 : 0 ≤ g) (h3 : 0 ≤ s) (h4 : s < 2147483629) : Ext B H (upd H B.b (.lst [.ref B.p, .int i, .int g, .int s, .int c])) :=
  ⟨fun a o e => by
    obtain ⟨e1, e2⟩ := cut_some e
    exact cut_of (by rw [upd_ne e2]; exact e1) e2, h.ne, by rw [upd_ne h.ne]; exact h.items, i, g, s, c, upd_same, h1, h2, h3, h4⟩
theorem int_of_cut {ns : List Int} {lo hi : Option Int} {i : Nat} {x : V} (h : (cutV (ns.map V.int) lo hi)[i]? = some x) : ∃ v : Int, x = .int v := by
  have m := List.mem_of_getElem? h
  unfold cutV at m
  obtain ⟨v, _, e⟩ := List.mem_map.mp (List.mem_of_mem_drop (List.mem_of_mem_take m))
  exact ⟨v, e.symm⟩
def ints_of (xs : List V) : List Int := xs.filterMap fun v => match v with | .int i => some i | _ => none
theorem ints_of_map (ns : List Int) : ints_of (ns.map V.int) = ns := by
  unfold ints_of
  rw [List.filterMap_map]
  exact List.filterMap_some
theorem ints_of_cut {ns : List Int} {lo hi : Option Int} : (ints_of (cutV (ns.map V.int) lo hi)).map V.int = cutV (ns.map V.int) lo hi := by
  unfold cutV
  rw [← List.map_drop, ← List.map_take, ints_of_map]
theorem mod_nn {x m : Int} (h : 0 < m) : 0 ≤ Int.fmod x m ∧ Int.fmod x m < m := by
  rw [Int.fmod_eq_emod_of_nonneg _ (Int.le_of_lt h)]
  exact ⟨Int.emod_nonneg _ (by omega), Int.emod_lt_of_pos _ h⟩
/-! ### the words -/
theorem scal_ii {a b : Int} : scal (.int a) (.int b) = true := rfl
theorem scal_bb {a b : Bool} : scal (.bl a) (.bl b) = true := rfl
theorem scal_ss {a b : Str} : scal (.str a) (.str b) = true := rfl
theorem scal_nx : scal .non .non = true := rfl
theorem scal_xn {a : Int} : scal .non (.int a) = true ∧ scal (.int a) .non = true := ⟨rfl, rfl⟩
def IfK (t u : TS) (D : Ends) (σ : L2.St) (b : Bool) (H : Hp) : Prop := if b = true then t D σ H else u D σ H
theorem tIfS_eq {c : TT} {t u : TS} {D : Ends} {σ : L2.St} {H : Hp} : tIfS c t u D σ H = c σ H (IfK t u D σ) := rfl
theorem ifk {t u : TS} {D : Ends} {σ : L2.St} {H : Hp} {p : Prop} [Decidable p] (h1 : p → t D σ H) (h2 : ¬ p → u D σ H) : IfK t u D σ (decide p) H := by
  unfold IfK
  by_cases h : p
  · rw [decide_eq_true h, if_pos rfl]
    exact h1 h
  · rw [decide_eq_false h, if_neg Bool.false_ne_true]
    exact h2 h
theorem ifkb {t u : TS} {D : Ends} {σ : L2.St} {H : Hp} {b : Bool} (h1 : b = true → t D σ H) (h2 : b = false → u D σ H) : IfK t u D σ b H := by
  cases b with
  | true => exact h1 rfl
  | false => exact h2 rfl
theorem ifk_t {t u : TS} {D : Ends} {σ : L2.St} {H : Hp} : IfK t u D σ true H = t D σ H := if_pos rfl
theorem ifk_f {t u : TS} {D : Ends} {σ : L2.St} {H : Hp} : IfK t u D σ false H = u D σ H := if_neg Bool.false_ne_true
def IeK (ta tb : TE) (σ : L2.St) (Q : VK) (b : Bool) (H : Hp) : Prop := if b = true then ta σ H Q else tb σ H Q
theorem tIf_eq {c : TT} {ta tb : TE} {σ : L2.St} {H : Hp} {Q : VK} : tIf c ta tb σ H Q = c σ H (IeK ta tb σ Q) := rfl
theorem iek {ta tb : TE} {σ : L2.St} {H : Hp} {Q : VK} {p : Prop} [Decidable p] (h1 : p → ta σ H Q) (h2 : ¬ p → tb σ H Q) : IeK ta tb σ Q (decide p) H := by
  unfold IeK
  by_cases h : p
  · rw [decide_eq_true h, if_pos rfl]
    exact h1 h
  · rw [decide_eq_false h, if_neg Bool.false_ne_true]
    exact h2 h
theorem iek_t {ta tb : TE} {σ : L2.St} {H : Hp} {Q : VK} : IeK ta tb σ Q true H = ta σ H Q := if_pos rfl
theorem iek_f {ta tb : TE} {σ : L2.St} {H : Hp} {Q : VK} : IeK ta tb σ Q false H = tb σ H Q := if_neg Bool.false_ne_true
def LpJ (g : TG) (tb : TS) (D : Ends) (σ : L2.St) (J : It) (H1 : Hp) : Prop := ∃ W : Nat → Nat → L2.St → Hp → Prop, (∃ m, W 0 m σ H1) ∧ ∀ i m σ H, W i m σ H →
  (J.stop i H ∧ D.nx σ H) ∨ (J.go i H ∧ ∃ N : L2.St → Hp → Prop, (∀ σ' H', N σ' H' → ∃ m', m' < m ∧ W (i + 1) m' σ' H') ∧ ∀ x H', J.yld i H x H' → g x σ H' fun σ2 H2 => tb { D with nx := N, ct := N, bk := D.nx } σ2 H2)
theorem tFor_eq {wi : TI} {g : TG} {tb : TS} {D : Ends} {σ : L2.St} {H : Hp} : tFor wi g tb D σ H = wi σ H (LpJ g tb D σ) := rfl
def LcJ (g : TG) (tt : TT) (te : TE) (vs : List Nat) (σ : L2.St) (Q : VK) (J : It) (H1 : Hp) : Prop := ∀ D, H1 D = none → ∃ W : Nat → Nat → Hp → Prop, (∃ m, W 0 m (upd H1 D (.lst []))) ∧ ∀ i m H, W i m H →
  (J.stop i H ∧ Q (.ref D) H) ∨ (J.go i H ∧ ∃ Nx : Hp → Prop, (∀ H', Nx H' → ∃ m', m' < m ∧ W (i + 1) m' H') ∧ ∀ x H', J.yld i H x H' → g x (wipe σ vs) H' fun σ2 H2 => wipe σ2 vs = wipe σ vs ∧ tt σ2 H2 fun b H3 =>
    if b = true then te σ2 H3 fun y H4 => ∃ acc, H4 D = some (.lst acc) ∧ acc.length < sizeLine ∧ Nx (upd H4 D (.lst (acc ++ [y]))) else Nx H3)
theorem tLc_eq {wi : TI} {g : TG} {tt : TT} {te : TE} {vs : List Nat} {σ : L2.St} {H : Hp} {Q : VK} : tLc wi g tt te vs σ H Q = wi σ H (LcJ g tt te vs σ Q) := rfl
theorem lp_it {J : It} {n : Nat} {G : Hp → Prop} {Y : Nat → Hp → V → Hp → Prop} (w : Walk J n G Y) {g : TG} {tb : TS} {D : Ends} {σ : L2.St} {H : Hp} (Pv : Nat → L2.St → Hp → Prop) (h0 : Pv 0 σ H) (hG : ∀ i σ H, i ≤ n → Pv i σ H → G H)
    (hs : ∀ i x σ H H', i < n → Pv i σ H → Y i H x H' → g x σ H' fun σ2 H2 => tb { D with nx := Pv (i + 1), ct := Pv (i + 1), bk := D.nx } σ2 H2) (hd : ∀ σ H, Pv n σ H → D.nx σ H) : LpJ g tb D σ J H := for_it w Pv h0 hG hs hd
/-- a comprehension whose items are told without the heap; nothing but new things -/
theorem lcS {J : It} {n : Nat} {G : Hp → Prop} {Y : Nat → Hp → V → Hp → Prop} (w : Walk J n G Y) {g : TG} {te : TE} {vs : List Nat} {σ : L2.St} {H1 : Hp} {Q : VK} (Φ : Nat → V → Prop) (hG : ∀ H, Same H1 H → G H) (hn : n ≤ 100000)
    (hs : ∀ i x H H' (R : V → Hp → Prop), i < n → Same H1 H → Y i H x H' → (∀ y H4, Same H H4 → Φ i y → R y H4) → g x (wipe σ vs) H' fun σ2 H2 => wipe σ2 vs = wipe σ vs ∧ te σ2 H2 R)
    (hd : ∀ D H ys, H1 D = none → Same H1 H → H D = some (.lst ys) → ys.length = n → (∀ i y, ys[i]? = some y → Φ i y) → Q (.ref D) H) : LcJ g tYes te vs σ Q J H1 := by
  intro D hD
  refine lc_it w (fun i H => Same H1 H ∧ ∃ ys, H D = some (.lst ys) ∧ ys.length = i ∧ ∀ i y, ys[i]? = some y → Φ i y) ⟨same_upd hD, [], upd_same, rfl, fun i y e => by simp at e⟩ (fun i H _ h => hG H h.1) (fun i x H H' hi h y => ?_) (fun H h => ?_)
  · obtain ⟨h1, ys, h2, h3, h4⟩ := h
    refine hs i x H H' _ hi h1 y fun z H4 s4 p => ?_
    refine ⟨ys, s4 _ _ h2, by rw [h3]; exact Nat.lt_of_lt_of_le hi (Nat.le_trans hn (by decide)), ?_, ys ++ [z], upd_same, by rw [List.length_append, h3]; rfl, fun j v e => ?_⟩
    · intro a o e
      rw [upd_ne (ne_of_none e hD)]
      exact s4 _ _ (h1 _ _ e)
    · by_cases hj : j < ys.length
      · rw [List.getElem?_append_left hj] at e
        exact h4 j v e
      · rw [List.getElem?_append_right (by omega)] at e
        by_cases hz : j - ys.length = 0
        · rw [hz] at e
          have e1 : z = v := Option.some.inj e
          have e2 : j = i := by omega
          rw [← e1, e2]
          exact p
        · rw [List.getElem?_eq_none (by simp; omega)] at e
          cases e
  · obtain ⟨h1, ys, h2, h3, h4⟩ := h
    exact hd D H ys hD h1 h2 h3 h4
/-- the same beside the bag -/
theorem lcB {B : BagId} {J : It} {n : Nat} {G : Hp → Prop} {Y : Nat → Hp → V → Hp → Prop} (w : Walk J n G Y) {g : TG} {te : TE} {vs : List Nat} {σ : L2.St} {H1 : Hp} {Q : VK} (Φ : Nat → V → Prop) (hb : Bag B H1) (hG : ∀ H, Ext B H1 H → G H) (hn : n ≤ 100000)
    (hs : ∀ i x H H' (R : V → Hp → Prop), i < n → Ext B H1 H → Y i H x H' → (∀ y H4, Ext B H H4 → Φ i y → R y H4) → g x (wipe σ vs) H' fun σ2 H2 => wipe σ2 vs = wipe σ vs ∧ te σ2 H2 R)
    (hd : ∀ D H ys, H1 D = none → Ext B H1 H → cut B.b H D = some (.lst ys) → ys.length = n → (∀ i y, ys[i]? = some y → Φ i y) → Q (.ref D) H) : LcJ g tYes te vs σ Q J H1 := by
  intro D hD
  have hDb : D ≠ B.b := hb.fresh hD
  refine lc_it w (fun i H => Ext B H1 H ∧ ∃ ys, cut B.b H D = some (.lst ys) ∧ ys.length = i ∧ ∀ i y, ys[i]? = some y → Φ i y) ⟨.new hb hD, [], cut_new hb hD, rfl, fun i y e => by simp at e⟩ (fun i H _ h => hG H h.1) (fun i x H H' hi h y => ?_) (fun H h => ?_)
  · obtain ⟨h1, ys, h2, h3, h4⟩ := h
    refine hs i x H H' _ hi h1 y fun z H4 s4 p => ?_
    refine ⟨ys, (cut_some (s4.same _ _ h2)).1, by rw [h3]; exact Nat.lt_of_lt_of_le hi (Nat.le_trans hn (by decide)), ⟨?_, ?_⟩, ys ++ [z], cut_of upd_same hDb, by rw [List.length_append, h3]; rfl, fun j v e => ?_⟩
    · intro a o e
      have e1 := h1.same _ _ e
      have e2 := s4.same _ _ e1
      obtain ⟨e3, e4⟩ := cut_some e2
      have na : a ≠ D := ne_of_none (cut_some e).1 hD
      exact cut_of (by rw [upd_ne na]; exact e3) e4
    · obtain ⟨i, g, s, c, k1, r⟩ := s4.bag.ex
      exact ⟨s4.bag.ne, by rw [upd_ne (ne_of_none hb.items hD)]; exact s4.bag.items, i, g, s, c, by rw [upd_ne (Ne.symm hDb)]; exact k1, r⟩
    · by_cases hj : j < ys.length
      · rw [List.getElem?_append_left hj] at e
        exact h4 j v e
      · rw [List.getElem?_append_right (by omega)] at e
        by_cases hz : j - ys.length = 0
        · rw [hz] at e
          have e1 : z = v := Option.some.inj e
          have e2 : j = i := by omega
          rw [← e1, e2]
          exact p
        · rw [List.getElem?_eq_none (by simp; omega)] at e
          cases e
  · obtain ⟨h1, ys, h2, h3, h4⟩ := h
    exact hd D H ys hD h1 h2 h3 h4
/-! ### the kinds of values -/
def vty (x : V) (H : Hp) : Option String := match x with
  | .non => some "NoneType"
  | .bl _ => some "bool"
  | .int _ => some "int"
  | .str _ => some "str"
  | .ref a => (match H a with
    | some (.lst _) => some "list"
    | some (.tup _) => some "tuple"
    | some (.dK _) => some "dict"
    | _ => none)
  | _ => none
theorem vty_tyx {K : PySem.W.Frag} {x : V} {H : Hp} {n : String} (h : vty x H = some n) : TyX K H x (.type n) := by
  unfold vty at h
  split at h
  · cases h; exact .base .non
  · cases h; exact .base (.bl _)
  · cases h; exact .base (.int _)
  · cases h; exact .base (.str _)
  · rename_i a
    split at h
    · rename_i xs e; cases h; exact .base (.lst e)
    · rename_i xs e; cases h; exact .base (.tup e)
    · rename_i xs e; cases h; exact .base (.dK e)
    · cases h
  · cases h
theorem vty_same {x : V} {H H' : Hp} {n : String} (h : vty x H = some n) (e : Same H H') : vty x H' = some n := by
  cases x with
  | ref a =>
    unfold vty at h ⊢
    cases q : H a with
    | none => simp [q] at h
    | some o =>
      simp only [q] at h
      simp only [e _ _ q]
      exact h
  | _ => exact h
theorem vty_lst {a : Addr} {H : Hp} {xs : List V} (h : H a = some (.lst xs)) : vty (.ref a) H = some "list" := by
  unfold vty; simp only [h]
theorem vty_tup {a : Addr} {H : Hp} {xs : List V} (h : H a = some (.tup xs)) : vty (.ref a) H = some "tuple" := by
  unfold vty; simp only [h]
theorem vty_dK {a : Addr} {H : Hp} {xs : List (Key × V)} (h : H a = some (.dK xs)) : vty (.ref a) H = some "dict" := by
  unfold vty; simp only [h]
theorem vty_non {H : Hp} : vty .non H = some "NoneType" := rfl
theorem vty_bl {H : Hp} {b : Bool} : vty (.bl b) H = some "bool" := rfl
theorem vty_int {H : Hp} {b : Int} : vty (.int b) H = some "int" := rfl
theorem vty_str {H : Hp} {b : Str} : vty (.str b) H = some "str" := rfl
def isaB (n c : String) : Bool := (kitB n c).getD false
theorem isa_list_list : isaB "list" "list" = true := by decide +kernel
theorem isa_list_tuple : isaB "list" "tuple" = false := by decide +kernel
theorem isa_list_bool : isaB "list" "bool" = false := by decide +kernel
theorem isa_list_int : isaB "list" "int" = false := by decide +kernel
theorem isa_list_str : isaB "list" "str" = false := by decide +kernel
theorem isa_tuple_list : isaB "tuple" "list" = false := by decide +kernel
theorem isa_tuple_tuple : isaB "tuple" "tuple" = true := by decide +kernel
theorem isa_tuple_bool : isaB "tuple" "bool" = false := by decide +kernel
theorem isa_tuple_int : isaB "tuple" "int" = false := by decide +kernel
theorem isa_tuple_str : isaB "tuple" "str" = false := by decide +kernel
theorem isa_dict_list : isaB "dict" "list" = false := by decide +kernel
theorem isa_dict_tuple : isaB "dict" "tuple" = false := by decide +kernel
theorem isa_dict_bool : isaB "dict" "bool" = false := by decide +kernel
theorem isa_dict_int : isaB "dict" "int" = false := by decide +kernel
theorem isa_dict_str : isaB "dict" "str" = false := by decide +kernel
theorem isa_bool_list : isaB "bool" "list" = false := by decide +kernel
theorem isa_bool_tuple : isaB "bool" "tuple" = false := by decide +kernel
theorem isa_bool_bool : isaB "bool" "bool" = true := by decide +kernel
theorem isa_bool_int : isaB "bool" "int" = true := by decide +kernel
theorem isa_bool_str : isaB "bool" "str" = false := by decide +kernel
theorem isa_int_list : isaB "int" "list" = false := by decide +kernel
theorem isa_int_tuple : isaB "int" "tuple" = false := by decide +kernel
theorem isa_int_bool : isaB "int" "bool" = false := by decide +kernel
theorem isa_int_int : isaB "int" "int" = true := by decide +kernel
theorem isa_int_str : isaB "int" "str" = false := by decide +kernel
theorem isa_str_list : isaB "str" "list" = false := by decide +kernel
theorem isa_str_tuple : isaB "str" "tuple" = false := by decide +kernel
theorem isa_str_bool : isaB "str" "bool" = false := by decide +kernel
theorem isa_str_int : isaB "str" "int" = false := by decide +kernel
theorem isa_str_str : isaB "str" "str" = true := by decide +kernel
theorem isa_non_list : isaB "NoneType" "list" = false := by decide +kernel
theorem isa_non_tuple : isaB "NoneType" "tuple" = false := by decide +kernel
theorem isa_non_bool : isaB "NoneType" "bool" = false := by decide +kernel
theorem isa_non_int : isaB "NoneType" "int" = false := by decide +kernel
theorem isa_non_str : isaB "NoneType" "str" = false := by decide +kernel
theorem kit_isa {K : PySem.W.Frag} {n c : String} (hm : PySem.W.kitMeta c = true) (hn : (PySem.fastBuiltinMro n).isSome = true) : PySem.W.kitOne K (.type n) (.type c) = some (isaB n c) := by
  show kitB n c = some ((kitB n c).getD false)
  unfold kitB
  split
  · rfl
  · cases e : PySem.fastBuiltinMro n with
    | none => rw [e] at hn; cases hn
    | some l => rfl
def Kn (n : String) : Bool := n ∈ ["NoneType", "bool", "int", "str", "list", "tuple", "dict"]
def Kc (c : String) : Bool := c ∈ ["bool", "int", "str", "list", "tuple"]
theorem kn_mro {n : String} (h : Kn n = true) : (PySem.fastBuiltinMro n).isSome = true := by
  have q : ∀ n ∈ ["NoneType", "bool", "int", "str", "list", "tuple", "dict"], (PySem.fastBuiltinMro n).isSome = true := by decide +kernel
  exact q n (of_decide_eq_true h)
theorem kc_meta {n : String} (h : Kc n = true) : PySem.W.kitMeta n = true := by
  have q : ∀ n ∈ ["bool", "int", "str", "list", "tuple"], PySem.W.kitMeta n = true := by decide +kernel
  exact q n (of_decide_eq_true h)
theorem vty_kn {x : V} {H : Hp} {n : String} (h : vty x H = some n) : Kn n = true := by
  unfold vty at h
  split at h
  · cases h; decide
  · cases h; decide
  · cases h; decide
  · cases h; decide
  · split at h
    · cases h; decide
    · cases h; decide
    · cases h; decide
    · cases h
  · cases h
/-- isinstance(x, T) -/
def rIsiF : List V → Hp → VK → Prop := fun xs H Q => ∃ (x : V) (c : String), xs = [x, .ty c] ∧ Kc c = true ∧ ∃ n, vty x H = some n ∧ Q (.bl (isaB n c)) H
theorem call_isiF {X : Cx} : CallR X (.builtin "isinstance") rIsiF := fun pins s σ H xs us Q I r h => by
  obtain ⟨x, c, rfl, hc, n, hn, q⟩ := h
  exact call_isi pins s σ H _ us Q I r ⟨x, .ty c, .type n, .type c, isaB n c, rfl, .ty c, vty_tyx hn, kit_isa (kc_meta hc) (kn_mro (vty_kn hn)), q⟩
/-- isinstance(x, (T1, T2)) -/
def rIsiFT : List V → Hp → VK → Prop := fun xs H Q => ∃ (x : V) (tp : Addr), xs = [x, .ref tp] ∧ ∃ c d, H tp = some (.tup [.ty c, .ty d]) ∧ Kc c = true ∧ Kc d = true ∧ ∃ n, vty x H = some n ∧ Q (.bl (isaB n c || isaB n d)) H
theorem call_isiFT {X : Cx} : CallR X (.builtin "isinstance") rIsiFT := fun pins s σ H xs us Q I r h => by
  obtain ⟨x, tp, rfl, c, d, hT, hc, hd, n, hn, q⟩ := h
  refine call_isiT pins s σ H _ us Q I r ⟨x, tp, [.ty c, .ty d], .type n, [.type c, .type d], _, rfl, hT, .cons (.ty c) (.cons (.ty d) .nil), vty_tyx hn, ?_, q⟩
  have k1 := kit_isa (K := X.K) (kc_meta hc) (kn_mro (vty_kn hn))
  have k2 := kit_isa (K := X.K) (kc_meta hd) (kn_mro (vty_kn hn))
  refine kitAny_cons k1 (fun e => ?_) (fun e => by rw [e]; rfl)
  rw [e, Bool.false_or]
  exact kitAny_cons k2 (fun e => by rw [e]; rfl) (fun e => e)
theorem pe_tyb {X : Cx} {x : Str} {pos : Pos} (n : String) (hg : Gl X x) (hm : X.mg x = none) (hv : bootBuiltins x = some (.type n)) (hn : x ≠ "__name__" := by decide) (hd : (x == ("__debug__" : Str)) = false := by decide) : PE X (.Name x pos) (tC (.ty n)) := pe_bltn hg hm hv rfl hn hd
/-- the rules that bear K, by name -/
def rLenS (K : PySem.W.Frag) : List V → Hp → VK → Prop := fun xs H Q => ∃ p ys, xs = [.ref p] ∧ (SqL K H p ys ∨ SqT K H p ys) ∧ Q (.int (ys.length : Nat)) H
def rLenV (K : PySem.W.Frag) : List V → Hp → VK → Prop := fun xs H Q => ∃ x n, xs = [x] ∧ LenV K x H n ∧ Q (.int (n : Nat)) H
def rListOf (K : PySem.W.Frag) : List V → Hp → VK → Prop := fun xs H Q => ∃ p ys, xs = [.ref p] ∧ (SqL K H p ys ∨ SqT K H p ys) ∧ ∀ l, H l = none → Q (.ref l) (upd H l (.lst ys))
def rTupOf (K : PySem.W.Frag) : List V → Hp → VK → Prop := fun xs H Q => ∃ p ys, xs = [.ref p] ∧ ((SqL K H p ys ∧ ∀ l, H l = none → Q (.ref l) (upd H l (.tup ys))) ∨ (SqT K H p ys ∧ Q (.ref p) H))
theorem kc_bool : Kc "bool" = true := by decide
theorem kc_int : Kc "int" = true := by decide
theorem kc_str : Kc "str" = true := by decide
theorem kc_list : Kc "list" = true := by decide
theorem kc_tuple : Kc "tuple" = true := by decide
theorem sz_0 : (0 ≤ sizeLine) = True := eq_true (by decide)
theorem sz_1 : (1 ≤ sizeLine) = True := eq_true (by decide)
theorem sz_2 : (2 ≤ sizeLine) = True := eq_true (by decide)
theorem sz_3 : (3 ≤ sizeLine) = True := eq_true (by decide)
theorem sz_4 : (4 ≤ sizeLine) = True := eq_true (by decide)
theorem sz_5 : (5 ≤ sizeLine) = True := eq_true (by decide)
theorem sz_6 : (6 ≤ sizeLine) = True := eq_true (by decide)
theorem sz_7 : (7 ≤ sizeLine) = True := eq_true (by decide)
theorem sz_8 : (8 ≤ sizeLine) = True := eq_true (by decide)
theorem sz_9 : (9 ≤ sizeLine) = True := eq_true (by decide)
theorem sz_10 : (10 ≤ sizeLine) = True := eq_true (by decide)
theorem sz_11 : (11 ≤ sizeLine) = True := eq_true (by decide)
theorem sz_12 : (12 ≤ sizeLine) = True := eq_true (by decide)
theorem sz_13 : (13 ≤ sizeLine) = True := eq_true (by decide)
theorem walk_zipT {K : PySem.W.Frag} {a b : Addr} {xs ys : List V} {n : Nat} (hn : n = min xs.length ys.length) : Walk (RZ.ItzT K a b) n (fun H => SqT K H a xs ∧ SqT K H b ys) (YPair (fun i => xs[i]?) (fun i => ys[i]?)) := by
  subst hn
  refine ⟨fun i _ hi q => ?_, fun _ q => ⟨xs, ys, q.1, q.2, by omega⟩, fun i H v H' _ q y => ?_⟩
  · have h1 : i < xs.length := by omega
    have h2 : i < ys.length := by omega
    exact ⟨xs, ys, xs[i], ys[i], q.1, q.2, by simp [h1], by simp [h2]⟩
  · obtain ⟨T, x, z, h1, h2, h3, h4, h5⟩ := y
    exact ⟨T, x, z, h1, h2, h3, h4 xs q.1, h5 ys q.2⟩
/-! ### isinstance of them -/
/-- what the class at C says of the built-in types that are asked -/
structure ExcK (K : PySem.W.Frag) (C : Addr) : Prop where
  oe : OexC K C
  ex : ExcC K C
  kb : ∀ c, Kc c = true → PySem.W.kitOne K (.ref C) (.type c) = some false
structure Txt (K : PySem.W.Frag) (mg : Str → Option Value) where
  is_number : DefAt K mg "is_number" s_is_number ["value", "least", "most"]
  is_name : DefAt K mg "is_name" s_is_name ["value"]
  is_sign : DefAt K mg "is_sign" s_is_sign ["value", "signs"]
  is_value : DefAt K mg "is_value" s_is_value ["value", "signs"]
  is_row : DefAt K mg "is_row" s_is_row ["value", "inputs", "signs"]
  l_bag : DefAt K mg "_law_bag" s_l_bag ["_law_script"]
  l_draw : DefAt K mg "_law_draw" s_l_draw ["_law_bag_here", "_law_size"]
  l_of : DefAt K mg "_law_of" s_l_of ["_law_bag_here", "_law_things"]
  l_like : DefAt K mg "_law_like" s_l_like ["_law_found", "_law_due"]
  l_any : DefAt K mg "_law_any" s_l_any ["_law_bag_here", "_law_deep_here"]
  l_is_number : DefAt K mg "_law_is_number" s_l_is_number ["_law_value_here"]
  l_is_sign : DefAt K mg "_law_is_sign" s_l_is_sign ["_law_value_here", "_law_base"]
  l_is_value : DefAt K mg "_law_is_value" s_l_is_value ["_law_value_here", "_law_base"]
  l_is_row : DefAt K mg "_law_is_row" s_l_is_row ["_law_value_here", "_law_n", "_law_base"]
  l_is_name : DefAt K mg "_law_is_name" s_l_is_name ["_law_value_here"]
  l_values : DefAt K mg "_law_values" s_l_values ["_law_base"]
  l_row : DefAt K mg "_law_row" s_l_row ["_law_bag_here", "_law_n", "_law_base"]
  l_odd_row : DefAt K mg "_law_odd_row" s_l_odd_row ["_law_bag_here", "_law_n", "_law_base"]
  l_letters : DefAt K mg "_law_letters" s_l_letters ["_law_bag_here", "_law_size"]
  l_nearly_name : DefAt K mg "_law_nearly_name" s_l_nearly_name ["_law_bag_here"]
  l_deep : DefAt K mg "_law_deep" s_l_deep ["_law_bag_here"]
  l_nearly_row : DefAt K mg "_law_nearly_row" s_l_nearly_row ["_law_bag_here", "_law_n", "_law_base"]
  l_value : DefAt K mg "_law_value" s_l_value ["_law_bag_here", "_law_low", "_law_high", "_law_n", "_law_base"]
  l_asks : DefAt K mg "_law_asks" s_l_asks ["_law_thing", "_law_low", "_law_high", "_law_n", "_law_base"]
  l_dues : DefAt K mg "_law_dues" s_l_dues ["_law_thing", "_law_low", "_law_high", "_law_n", "_law_base"]
  u_LETTERS : Value
  c_LETTERS : mg "LETTERS" = some u_LETTERS
  r_LETTERS : RelV (.str "abcdefghijklmnopqrstuvwxyz") u_LETTERS
  u_MOST_LETTERS : Value
  c_MOST_LETTERS : mg "MOST_LETTERS" = some u_MOST_LETTERS
  r_MOST_LETTERS : RelV (.int 8) u_MOST_LETTERS
  z_isinstance : mg "isinstance" = none
  z_int : mg "int" = none
  z_bool : mg "bool" = none
  z_all : mg "all" = none
  z_str : mg "str" = none
  z_len : mg "len" = none
  z_tuple : mg "tuple" = none
  z_list : mg "list" = none
  z_zip : mg "zip" = none
  z_range : mg "range" = none
  IO_C : Addr
  IO_f : Addr
  IO_d : FuncData
  IO_F : Fun K "__init__" "InvalidOrder.__init__" (inClass (topS 10) 0) IO_f IO_d
  IO_b : Binds K IO_d ["self"] []
  IO_g : mg "InvalidOrder" = some (.ref IO_C)
  IO_K : ExcK K IO_C
  IO_i : PySem.W.findIn K (.ref IO_C) "__init__" = some (some (.ref IO_f))
  IO_t : PySem.W.typeIn K (.ref IO_f) = some (.type "function")
  IO_n : PySem.W.findIn K (.ref IO_C) "code" = some none
local macro_rules | `(tactic| walk_at "wp") => `(tactic| simp only [tSeq, tAsg, tC, tVar, tOp, tUn, rI, rI0, rU, tCB, tCons, tNil, tRet, tRetN, tDrop, tLst, tTup, tIf_eq, tIfS_eq, ifk_t, ifk_f, iek_t, iek_f, tTest, tB, tAnd, tOr, tNot, tAndV, tOrV, tNotV, tNext, tSl, rSlL, tPart, tNoPart, gName, gTup, gCons, gNil, gSub, rSetL, tCall, iList, iTup, iRng1, iRng2, rIxL, rIxT, rEq, rNe, scal_ii, scal_bb, scal_ss, scal_nx, scal_xn, RZ.iZipA, rIsiF, rIsiFT, vty_non, vty_bl, vty_int, vty_str, isa_list_list, isa_list_tuple, isa_list_bool, isa_list_int, isa_list_str, isa_tuple_list, isa_tuple_tuple, isa_tuple_bool, isa_tuple_int, isa_tuple_str, isa_dict_list, isa_dict_tuple, isa_dict_bool, isa_dict_int, isa_dict_str, isa_bool_list, isa_bool_tuple, isa_bool_bool, isa_bool_int, isa_bool_str, isa_int_list, isa_int_tuple, isa_int_bool, isa_int_int, isa_int_str, isa_str_list, isa_str_tuple, isa_str_bool, isa_str_int, isa_str_str, isa_non_list, isa_non_tuple, isa_non_bool, isa_non_int, isa_non_str, kc_bool, kc_int, kc_str, kc_list, kc_tuple, upd_same, HO.tup.injEq, HO.lst.injEq, V.ty.injEq, Bool.or_true, Bool.true_or, Bool.or_false, Bool.false_or, sz_0, sz_1, sz_2, sz_3, sz_4, sz_5, sz_6, sz_7, sz_8, sz_9, sz_10, sz_11, sz_12, sz_13, decide_true, decide_false, C8.tCut, tPar, tCallN,  tDisp, tPairs, rSlS, rLenS, rLenV, rListOf, rTupOf, tM0, tM1, iStr, wipe, tYes, tFor_eq, tLc_eq, L2.start, cxOf, Cx.nox, Cx.wish, List.map_cons, List.map_nil, List.length_cons, List.length_nil, List.replicate, List.cons_append, List.nil_append, List.getElem?_cons_zero, List.getElem?_cons_succ, List.set_cons_zero, List.set_cons_succ, Option.some.injEq, and_assoc, exists_and_left, exists_and_right, exists_eq_left', exists_eq_left, exists_eq, exists_eq', true_and, and_true, Nat.reduceSub, Nat.reduceAdd, V.int.injEq, V.ref.injEq, V.bl.injEq, V.str.injEq, List.cons.injEq, decide_eq_true_eq, reduceCtorEq, false_or, or_false, and_false, false_and, exists_false, exists_const, if_true, if_false, Bool.true_eq_false, Bool.false_eq_true, ite_true, ite_false, Bool.not_true, Bool.not_false, decide_eq_false_iff_not, ne_eq])

end Kx

set_option Elab.async false
set_option linter.all false
set_option maxRecDepth 100000
set_option maxHeartbeats 4000000
namespace Kx
open PySem PySem.Spec PyProof.Rows L2
local macro_rules | `(tactic| walk_at "wp") => `(tactic| simp only [tSeq, tAsg, tC, tVar, tOp, tUn, rI, rI0, rU, tCB, tCons, tNil, tRet, tRetN, tDrop, tLst, tTup, tIf_eq, tIfS_eq, ifk_t, ifk_f, iek_t, iek_f, tTest, tB, tAnd, tOr, tNot, tAndV, tOrV, tNotV, tNext, tSl, rSlL, tPart, tNoPart, gName, gTup, gCons, gNil, gSub, rSetL, tCall, iList, iTup, iRng1, iRng2, rIxL, rIxT, rEq, rNe, scal_ii, scal_bb, scal_ss, scal_nx, scal_xn, RZ.iZipA, rIsiF, rIsiFT, vty_non, vty_bl, vty_int, vty_str, isa_list_list, isa_list_tuple, isa_list_bool, isa_list_int, isa_list_str, isa_tuple_list, isa_tuple_tuple, isa_tuple_bool, isa_tuple_int, isa_tuple_str, isa_dict_list, isa_dict_tuple, isa_dict_bool, isa_dict_int, isa_dict_str, isa_bool_list, isa_bool_tuple, isa_bool_bool, isa_bool_int, isa_bool_str, isa_int_list, isa_int_tuple, isa_int_bool, isa_int_int, isa_int_str, isa_str_list, isa_str_tuple, isa_str_bool, isa_str_int, isa_str_str, isa_non_list, isa_non_tuple, isa_non_bool, isa_non_int, isa_non_str, kc_bool, kc_int, kc_str, kc_list, kc_tuple, upd_same, HO.tup.injEq, HO.lst.injEq, V.ty.injEq, Bool.or_true, Bool.true_or, Bool.or_false, Bool.false_or, sz_0, sz_1, sz_2, sz_3, sz_4, sz_5, sz_6, sz_7, sz_8, sz_9, sz_10, sz_11, sz_12, sz_13, decide_true, decide_false, C8.tCut, tPar, tCallN,  tDisp, tPairs, rSlS, rLenS, rLenV, rListOf, rTupOf, tM0, tM1, iStr, wipe, tYes, tFor_eq, tLc_eq, L2.start, cxOf, Cx.nox, Cx.wish, List.map_cons, List.map_nil, List.length_cons, List.length_nil, List.replicate, List.cons_append, List.nil_append, List.getElem?_cons_zero, List.getElem?_cons_succ, List.set_cons_zero, List.set_cons_succ, Option.some.injEq, and_assoc, exists_and_left, exists_and_right, exists_eq_left', exists_eq_left, exists_eq, exists_eq', true_and, and_true, Nat.reduceSub, Nat.reduceAdd, V.int.injEq, V.ref.injEq, V.bl.injEq, V.str.injEq, List.cons.injEq, decide_eq_true_eq, reduceCtorEq, false_or, or_false, and_false, false_and, exists_false, exists_const, if_true, if_false, Bool.true_eq_false, Bool.false_eq_true, ite_true, ite_false, Bool.not_true, Bool.not_false, decide_eq_false_iff_not, ne_eq])

section
variable {P : Program} {w : World} {K : PySem.W.Frag} {mg : Str → Option Value} {base : Heap}
def sp_bag (K : PySem.W.Frag) : Sp := fun vs H Q _ => ∃ (a : Addr) (ns : List Int), vs = [.ref a] ∧ SqL K H a (ns.map V.int) ∧ ns.length ≤ 63 ∧ ∀ (B : BagId) H', Same H H' → Bag B H' → Q (.ref B.b) H'
def sp_draw : Sp := fun vs H Q _ => ∃ (B : BagId) (n : Int), vs = [.ref B.b, .int n] ∧ Bag B H ∧ 0 < n ∧ n < 1073741824 ∧ ∀ k H', Ext B H H' → 0 ≤ k → k < n → Q (.int k) H'
def sp_of (K : PySem.W.Frag) : Sp := fun vs H Q _ => ∃ (B : BagId) (t : Addr) (xs : List V), vs = [.ref B.b, .ref t] ∧ Bag B H ∧ SqL K (cut B.b H) t xs ∧ 0 < xs.length ∧ xs.length < 1000000 ∧ ∀ v H', v ∈ xs → Ext B H H' → Q v H'
theorem call_intI {X : Cx} : CallR X (.type "int") (fun xs H Q => ∃ i, xs = [.int i] ∧ Q (.int i) H) := fun pins s σ H xs us Q I r h => call_int1 pins s σ H xs us Q I r (.inl h)
theorem ok_bag (T : Txt K mg) : FnOk P w K mg base CX0 1 T.l_bag.f T.l_bag.d ["_law_script"] (sp_bag K) := by
  refine T.l_bag.F.ok sc_l_bag (fun vs H Q E h => ?_) (fun cdv A outer s H vs Q E hr h => ?_)
  · obtain ⟨a, ns, rfl, _⟩ := h
    rfl
  obtain ⟨a, ns, rfl, hS, hlen, q⟩ := h
  refine ⟨_, (pss_cons (ps_set (i := 1) sc_l_bag.nd rfl (.inl rfl) pe_int)
      (pss_cons (ps_for PassesOwn.never rfl (pi_list (pe_slice sl_list (pv 0) po_none (po_some pe_int))) (pg_name (i := 2) sc_l_bag.nd rfl (.inl rfl))
      (pss_one (ps_set (i := 1) sc_l_bag.nd rfl (.inl rfl) (pe_op op_modN (pe_callTy call_intI (by rfl) T.z_int (by decide +kernel) (pa_cons (pe_op op_add (pe_op op_add (pe_op op_mul (pv 1) pe_int) (pe_op op_modN (pe_callTy call_intI (by rfl) T.z_int (by decide +kernel) (pa_cons (pv 2) pa_nil)) pe_int)) pe_int) pa_nil)) pe_int))))
      (pss_one (ps_ret (pe_lst (pa_cons (pe_callTy call_list_of (by rfl) T.z_list (by decide +kernel) (pa_cons (pe_slice sl_list (pv 0) po_none (po_some pe_int)) pa_nil)) (pa_cons pe_int (pa_cons pe_int (pa_cons (pv 1) (pa_cons pe_int pa_nil)))))))))), ?_⟩
  walk_at "wp"
  refine ⟨_, hS, fun p hp => ⟨⟨_, .inl (.inl upd_same)⟩, ?_⟩⟩
  refine lp_it (walk_list (xs := cutV (ns.map V.int) none (some 63))) (fun i σ H' => ∃ (y : Int) (z : Option V), σ = [some (.ref a), some (.int y), z] ∧ 0 ≤ y ∧ y < 2147483629 ∧ H' = upd H p (.lst (cutV (ns.map V.int) none (some 63)))) ⟨12047, none, rfl, by decide, by decide, rfl⟩ (fun i σ H' _ h => ?_) (fun i x σ H' H2 hi h hy => ?_) (fun σ H' h => ?_)
  · obtain ⟨y, z, rfl, _, _, rfl⟩ := h
    exact .inl (.inl upd_same)
  · obtain ⟨y, z, rfl, h1, h2, rfl⟩ := h
    obtain ⟨rfl, hx⟩ := hy
    have hxi : ∃ v : Int, x = .int v := int_of_cut hx
    obtain ⟨v, rfl⟩ := hxi
    walk_at "wp"
    have m := mod_nn (x := y * 69621 + v.fmod 2147483587 + 101) (m := 2147483629) (by decide)
    exact ⟨.inl ⟨by omega, by omega⟩, by decide, by decide, m.1, m.2⟩
  · obtain ⟨y, z, rfl, h1, h2, rfl⟩ := h
    walk_at "wp"
    refine ⟨_, (same_upd hp).seq hS, fun p1 hp1 => ⟨_, .inl (.inl (.inl upd_same)), fun l hl b hb => ?_⟩⟩
    refine q ⟨b, l, ints_of (cutV (ns.map V.int) none (some 63))⟩ _ ((same_upd hp).trans ((same_upd hp1).trans ((same_upd hl).trans (same_upd hb)))) ⟨ne_of_none upd_same hb, ?_, 0, 0, y, 0, upd_same, by decide, by decide, h1, h2⟩
    rw [upd_ne (ne_of_none upd_same hb), upd_same, ints_of_cut]
theorem ok_draw (T : Txt K mg) : FnOk P w K mg base CX0 1 T.l_draw.f T.l_draw.d ["_law_bag_here", "_law_size"] sp_draw := by
  refine T.l_draw.F.ok sc_l_draw (fun vs H Q E h => ?_) (fun cdv A outer s H vs Q E hr h => ?_)
  · obtain ⟨B, n, rfl, _⟩ := h
    rfl
  obtain ⟨B, n, rfl, hB, hn0, hn1, q⟩ := h
  obtain ⟨i, g, sd, c, hb, hi, hg, hs0, hs1⟩ := hB.ex
  refine ⟨_, (pss_cons (ps_asg (pe_op op_add (pe_ix ix_list (pv 0) pe_int (fun _ _ => rfl)) pe_int) (pg_sub (pv 0) pe_int set_list))
      (C8.pss_cut (ps_if (PW.pt (pw_and (pt_cmpR op_eq (pe_ix ix_list (pv 0) pe_int (fun _ _ => rfl)) pe_int (nomark _)) (pw_and1 (pt_cmpR op_lt (pe_ix ix_list (pv 0) pe_int (fun _ _ => rfl)) (pe_callB call_len_seq (by rfl) T.z_len PySem.boot_len (pa_cons (pe_ix ix_list (pv 0) pe_int (fun _ _ => rfl)) pa_nil)) (nomark _)))))
      (pss_cons (ps_set (i := 2) sc_l_draw.nd rfl (.inl rfl) (pe_ix ix_list (pe_ix ix_list (pv 0) pe_int (fun _ _ => rfl)) (pe_ix ix_list (pv 0) pe_int (fun _ _ => rfl)) (fun _ _ => rfl)))
      (pss_cons (ps_asg (pe_op op_add (pe_ix ix_list (pv 0) pe_int (fun _ _ => rfl)) pe_int) (pg_sub (pv 0) pe_int set_list))
      (pss_one (ps_if (pt_cmpR op_ge (pv 2) (pe_op op_pow pe_int pe_int) (nomark _))
      (pss_one (ps_asg (pv 2) (pg_sub (pv 0) pe_int set_list)))
      (pss_one (ps_asg (pe_op op_modN (pe_callTy call_intI (by rfl) T.z_int (by decide +kernel) (pa_cons (pe_op op_add (pe_op op_add (pe_op op_mul (pe_ix ix_list (pv 0) pe_int (fun _ _ => rfl)) pe_int) (pe_op op_mul (pe_op op_modN (pe_callTy call_intI (by rfl) T.z_int (by decide +kernel) (pa_cons (pv 2) pa_nil)) pe_int) pe_int)) pe_int) pa_nil)) pe_int) (pg_sub (pv 0) pe_int set_list)))))))
      pss_nil)
      (pss_cons (ps_if (pt_cmpR op_gt (pe_ix ix_list (pv 0) pe_int (fun _ _ => rfl)) pe_int (nomark _))
      (pss_cons (ps_set (i := 3) sc_l_draw.nd rfl (.inl rfl) (pe_op op_modN (pe_callTy call_intI (by rfl) T.z_int (by decide +kernel) (pa_cons (pe_ix ix_list (pv 0) pe_int (fun _ _ => rfl)) pa_nil)) (pv 1)))
      (pss_cons (ps_asg (pe_op op_fdivN (pe_ix ix_list (pv 0) pe_int (fun _ _ => rfl)) (pv 1)) (pg_sub (pv 0) pe_int set_list))
      (pss_one (ps_ret (pv 3)))))
      pss_nil)
      (pss_cons (ps_asg (pe_op op_modN (pe_callTy call_intI (by rfl) T.z_int (by decide +kernel) (pa_cons (pe_op op_add (pe_op op_add (pe_op op_pow (pe_ix ix_list (pv 0) pe_int (fun _ _ => rfl)) pe_int) (pe_op op_mul (pe_ix ix_list (pv 0) pe_int (fun _ _ => rfl)) pe_int)) pe_int) pa_nil)) pe_int) (pg_sub (pv 0) pe_int set_list))
      (pss_one (ps_ret (pe_op op_modN (pe_callTy call_intI (by rfl) T.z_int (by decide +kernel) (pa_cons (pe_op op_add (pe_op op_fdivN (pe_ix ix_list (pv 0) pe_int (fun _ _ => rfl)) pe_int) (pe_op op_mul (pe_op op_modN (pe_callTy call_intI (by rfl) T.z_int (by decide +kernel) (pa_cons (pe_ix ix_list (pv 0) pe_int (fun _ _ => rfl)) pa_nil)) pe_int) pe_int)) pa_nil)) (pv 1)))))))), ?_⟩
  walk_at "wp"
  refine ⟨_, .inl (.inl hb), _, rfl, _, rfl, _, hb, 4, rfl, ?_⟩
  have e1 : Ext B H (upd H B.b (.lst (List.set [.ref B.p, .int i, .int g, .int sd, .int c] 4 (.int (c + 1))))) := hB.set hi hg hs0 hs1
  have b1 : upd H B.b (.lst (List.set [.ref B.p, .int i, .int g, .int sd, .int c] 4 (.int (c + 1)))) B.b = some (.lst [.ref B.p, .int i, .int g, .int sd, .int (c + 1)]) := upd_same
  generalize upd H B.b (.lst (List.set [.ref B.p, .int i, .int g, .int sd, .int c] 4 (.int (c + 1)))) = H1 at e1 b1 ⊢
  -- behind the item that is taken, or not
  obtain ⟨Mid, hMid⟩ : ∃ M : L2.St → Hp → Prop, ∀ σ H2, M σ H2 ↔ ∃ (i g sd : Int) (z1 z2 : Option V), σ = [some (.ref B.b), some (.int n), z1, z2] ∧ Ext B H H2 ∧ 0 ≤ i ∧ 0 ≤ g ∧ 0 ≤ sd ∧ sd < 2147483629 ∧ H2 B.b = some (.lst [.ref B.p, .int i, .int g, .int sd, .int (c + 1)]) := ⟨_, fun _ _ => Iff.rfl⟩
  refine ⟨Mid, ?_, fun σ H2 h => ?_⟩
  · refine ⟨_, .inl (.inl b1), _, rfl, rfl, ?_⟩
    refine ite2 (fun c1 => ?_) (fun c1 => ?_)
    · refine ⟨_, .inl (.inl b1), _, rfl, _, .inl (.inl b1), _, rfl, _, rfl, _, .inl (.inl (.inl e1.bag.items)), _, rfl, ?_⟩
      refine ifk (fun c2 => ?_) (fun c2 => ?_)
      · walk_at "wp"
        rw [List.length_map] at c2
        have hat : atI (B.ns.map V.int) i = some (.int (B.ns[i.toNat]'(by omega))) := at_of (j := i.toNat) (by omega) (by rw [List.getElem?_map, List.getElem?_eq_getElem (by omega)]; rfl)
        generalize B.ns[i.toNat]'(by omega) = v at hat
        refine ⟨_, .inl (.inl b1), _, rfl, _, .inl (.inl b1), _, rfl, _, rfl, _, _, rfl, .inl (.inl e1.bag.items), _, hat, _, .inl (.inl b1), _, rfl, _, rfl, _, b1, 1, rfl, ⟨by decide, by decide, by decide⟩, _, rfl, ?_⟩
        have e2 : Ext B H1 (upd H1 B.b (.lst (List.set [.ref B.p, .int i, .int g, .int sd, .int (c + 1)] 1 (.int (i + 1))))) := e1.bag.set (by omega) hg hs0 hs1
        have b2 : upd H1 B.b (.lst (List.set [.ref B.p, .int i, .int g, .int sd, .int (c + 1)] 1 (.int (i + 1)))) B.b = some (.lst [.ref B.p, .int (i + 1), .int g, .int sd, .int (c + 1)]) := upd_same
        generalize upd H1 B.b (.lst (List.set [.ref B.p, .int i, .int g, .int sd, .int (c + 1)] 1 (.int (i + 1)))) = H2 at e2 b2 ⊢
        refine ifk (fun c3 => ?_) (fun c3 => ?_)
        · walk_at "wp"
          have c4 : (0 : Int) ≤ v := Int.le_trans (by decide) c3
          exact ⟨_, b2, 2, rfl, (hMid _ _).mpr ⟨i + 1, v, sd, _, _, rfl, e1.trans (e2.trans (e2.bag.set (by omega) c4 hs0 hs1)), by omega, c4, hs0, hs1, upd_same⟩⟩
        · walk_at "wp"
          have m := mod_nn (x := sd * 40692 + v.fmod 2147483549 * 30011 + 71) (m := 2147483629) (by decide)
          have m1 := mod_nn (x := v) (m := 2147483549) (by decide)
          exact ⟨_, .inl (.inl b2), _, rfl, _, rfl, .inr ⟨by decide, by decide⟩, by decide, .inr ⟨by decide, by decide⟩, by decide, _, b2, 3, rfl,
            (hMid _ _).mpr ⟨i + 1, g, _, _, _, rfl, e1.trans (e2.trans (e2.bag.set (by omega) hg m.1 m.2)), by omega, hg, m.1, m.2, upd_same⟩⟩
      · try walk_at "wp"
        exact (hMid _ _).mpr ⟨i, g, sd, none, none, rfl, e1, hi, hg, hs0, hs1, b1⟩
    · try walk_at "wp"
      exact (hMid _ _).mpr ⟨i, g, sd, none, none, rfl, e1, hi, hg, hs0, hs1, b1⟩
  · obtain ⟨i, g, sd, z1, z2, rfl, e2, hi, hg, hs0, hs1, b2⟩ := (hMid _ _).mp h
    walk_at "wp"
    refine ⟨_, .inl (.inl b2), _, rfl, _, rfl, ?_⟩
    refine ifk (fun c2 => ?_) (fun c2 => ?_)
    · walk_at "wp"
      have m := mod_nn (x := g) (m := n) hn0
      have hq : 0 ≤ g.fdiv n := Int.fdiv_nonneg hg (Int.le_of_lt hn0)
      exact ⟨_, .inl (.inl b2), _, rfl, _, rfl, by omega, _, .inl (.inl b2), _, rfl, _, rfl, ⟨by omega, by omega⟩, _, b2, 2, rfl, q _ _ (e2.trans (e2.bag.set hi hq hs0 hs1)) m.1 m.2⟩
    · walk_at "wp"
      have m := mod_nn (x := sd ^ (3 : Int).toNat + (c + 1) * 1299721 + 50021) (m := 2147483629) (by decide)
      refine ⟨_, .inl (.inl b2), _, rfl, _, rfl, ⟨by decide, by decide, by omega⟩, _, .inl (.inl b2), _, rfl, _, rfl, .inr ⟨by decide, by decide⟩, by decide, _, b2, 3, rfl, ?_⟩
      generalize (sd ^ (3 : Int).toNat + (c + 1) * 1299721 + 50021).fmod 2147483629 = y at m ⊢
      have e3 := e2.trans (e2.bag.set (i := i) (g := g) (s := y) (c := c + 1) hi hg m.1 m.2)
      have m2 := mod_nn (x := y.fdiv 89 + y.fmod 7907 * 61) (m := n) hn0
      exact ⟨_, .inl (.inl upd_same), _, rfl, _, rfl, ⟨by decide, by decide⟩, _, .inl (.inl upd_same), _, rfl, _, rfl, by decide, .inr ⟨by decide, by decide⟩, by omega, q _ _ e3 m2.1 m2.2⟩
theorem ok_of (T : Txt K mg) : FnOk P w K mg base CX0 2 T.l_of.f T.l_of.d ["_law_bag_here", "_law_things"] (sp_of K) := by
  have G_l_draw : FnOk P w K mg base CX0 1 T.l_draw.f T.l_draw.d ["_law_bag_here", "_law_size"] sp_draw := ok_draw T
  refine T.l_of.F.ok sc_l_of (fun vs H Q E h => ?_) (fun cdv A outer s H vs Q E hr h => ?_)
  · obtain ⟨B, t, xs, rfl, _⟩ := h
    rfl
  obtain ⟨B, t, xs, rfl, hB, hx, h0, h1, q⟩ := h
  refine ⟨_, (pss_one (ps_ret (pe_ix ix_list (pv 1) (pe_call G_l_draw (hr.mono (by omega)) (by rfl) T.l_draw.g T.l_draw.kp T.l_draw.b .nil pass0 (pa_cons (pv 0) (pa_cons (pe_callB call_len_seq (by rfl) T.z_len PySem.boot_len (pa_cons (pv 1) pa_nil)) pa_nil))) (fun _ _ => rfl)))), ?_⟩
  walk_at "wp"
  refine ⟨xs, .inl (cut_out.seq hx), B, _, rfl, hB, by omega, by omega, fun k H' e h1 h2 => ?_⟩
  have hk : k.toNat < xs.length := by omega
  refine ⟨_, k, rfl, cut_out.seq (e.same.seq hx), _, at_of (j := k.toNat) (by omega) (List.getElem?_eq_getElem hk), ?_⟩
  exact q _ _ (List.getElem_mem hk) e
end
end Kx

set_option Elab.async false
set_option linter.all false
set_option maxRecDepth 100000
set_option maxHeartbeats 4000000
namespace Kx
open PySem PySem.Spec PyProof.Rows L2
local macro_rules | `(tactic| walk_at "wp") => `(tactic| simp only [tSeq, tAsg, tC, tVar, tOp, tUn, rI, rI0, rU, tCB, tCons, tNil, tRet, tRetN, tDrop, tLst, tTup, tIf_eq, tIfS_eq, ifk_t, ifk_f, iek_t, iek_f, tTest, tB, tAnd, tOr, tNot, tAndV, tOrV, tNotV, tNext, tSl, rSlL, tPart, tNoPart, gName, gTup, gCons, gNil, gSub, rSetL, tCall, iList, iTup, iRng1, iRng2, rIxL, rIxT, rEq, rNe, scal_ii, scal_bb, scal_ss, scal_nx, scal_xn, RZ.iZipA, rIsiF, rIsiFT, vty_non, vty_bl, vty_int, vty_str, isa_list_list, isa_list_tuple, isa_list_bool, isa_list_int, isa_list_str, isa_tuple_list, isa_tuple_tuple, isa_tuple_bool, isa_tuple_int, isa_tuple_str, isa_dict_list, isa_dict_tuple, isa_dict_bool, isa_dict_int, isa_dict_str, isa_bool_list, isa_bool_tuple, isa_bool_bool, isa_bool_int, isa_bool_str, isa_int_list, isa_int_tuple, isa_int_bool, isa_int_int, isa_int_str, isa_str_list, isa_str_tuple, isa_str_bool, isa_str_int, isa_str_str, isa_non_list, isa_non_tuple, isa_non_bool, isa_non_int, isa_non_str, kc_bool, kc_int, kc_str, kc_list, kc_tuple, upd_same, HO.tup.injEq, HO.lst.injEq, V.ty.injEq, Bool.or_true, Bool.true_or, Bool.or_false, Bool.false_or, sz_0, sz_1, sz_2, sz_3, sz_4, sz_5, sz_6, sz_7, sz_8, sz_9, sz_10, sz_11, sz_12, sz_13, decide_true, decide_false, C8.tCut, tPar, tCallN,  tDisp, tPairs, rSlS, rLenS, rLenV, rListOf, rTupOf, tM0, tM1, iStr, wipe, tYes, tFor_eq, tLc_eq, L2.start, cxOf, Cx.nox, Cx.wish, List.map_cons, List.map_nil, List.length_cons, List.length_nil, List.replicate, List.cons_append, List.nil_append, List.getElem?_cons_zero, List.getElem?_cons_succ, List.set_cons_zero, List.set_cons_succ, Option.some.injEq, and_assoc, exists_and_left, exists_and_right, exists_eq_left', exists_eq_left, exists_eq, exists_eq', true_and, and_true, Nat.reduceSub, Nat.reduceAdd, V.int.injEq, V.ref.injEq, V.bl.injEq, V.str.injEq, List.cons.injEq, decide_eq_true_eq, reduceCtorEq, false_or, or_false, and_false, false_and, exists_false, exists_const, if_true, if_false, Bool.true_eq_false, Bool.false_eq_true, ite_true, ite_false, Bool.not_true, Bool.not_false, decide_eq_false_iff_not, ne_eq])

/-! ### data -/
def Is (H : Hp) : Nat → PyData → V → Prop
  | _, .none, v => v = .non
  | _, .bool b, v => v = .bl b
  | _, .int i, v => v = .int i
  | _, .str x, v => v = .str x
  | n + 1, .list ds, v => ds.length ≤ 1000 ∧ ∃ a xs, v = .ref a ∧ H a = some (.lst xs) ∧ Paired (Is H n) ds xs
  | n + 1, .tuple ds, v => ds.length ≤ 1000 ∧ ∃ a xs, v = .ref a ∧ H a = some (.tup xs) ∧ Paired (Is H n) ds xs
  | _, _, _ => False
theorem paired_mono {α β : Type} {R S : α → β → Prop} (h : ∀ a b, R a b → S a b) : ∀ {as : List α} {bs : List β}, Paired R as bs → Paired S as bs
  | _, _, .nil => .nil
  | _, _, .cons a b => .cons (h _ _ a) (paired_mono h b)
theorem Is.same {H H' : Hp} (e : Same H H') : ∀ {n : Nat} {d : PyData} {v : V}, Is H n d v → Is H' n d v
  | _, .none, _, h => by unfold Is at h ⊢; exact h
  | _, .bool b, _, h => by unfold Is at h ⊢; exact h
  | _, .int i, _, h => by unfold Is at h ⊢; exact h
  | _, .str x, _, h => by unfold Is at h ⊢; exact h
  | n + 1, .list ds, v, h => by
    unfold Is at h ⊢
    obtain ⟨h0, a, xs, h1, h2, h3⟩ := h
    exact ⟨h0, a, xs, h1, e _ _ h2, paired_mono (fun _ _ => Is.same e) h3⟩
  | n + 1, .tuple ds, v, h => by
    unfold Is at h ⊢
    obtain ⟨h0, a, xs, h1, h2, h3⟩ := h
    exact ⟨h0, a, xs, h1, e _ _ h2, paired_mono (fun _ _ => Is.same e) h3⟩
  | 0, .list _, _, h => by unfold Is at h; exact h.elim
  | 0, .tuple _, _, h => by unfold Is at h; exact h.elim
  | _, .dict _, _, h => by unfold Is at h; exact h.elim
theorem Is.up {H : Hp} : ∀ {n : Nat} {d : PyData} {v : V}, Is H n d v → Is H (n + 1) d v
  | _, .none, _, h => by unfold Is at h ⊢; exact h
  | _, .bool b, _, h => by unfold Is at h ⊢; exact h
  | _, .int i, _, h => by unfold Is at h ⊢; exact h
  | _, .str x, _, h => by unfold Is at h ⊢; exact h
  | n + 1, .list ds, v, h => by
    unfold Is at h ⊢
    obtain ⟨h0, a, xs, h1, h2, h3⟩ := h
    exact ⟨h0, a, xs, h1, h2, paired_mono (fun _ _ => Is.up) h3⟩
  | n + 1, .tuple ds, v, h => by
    unfold Is at h ⊢
    obtain ⟨h0, a, xs, h1, h2, h3⟩ := h
    exact ⟨h0, a, xs, h1, h2, paired_mono (fun _ _ => Is.up) h3⟩
  | 0, .list _, _, h => by unfold Is at h; exact h.elim
  | 0, .tuple _, _, h => by unfold Is at h; exact h.elim
  | _, .dict _, _, h => by unfold Is at h; exact h.elim
theorem paired_len {α β : Type} {R : α → β → Prop} : ∀ {as : List α} {bs : List β}, Paired R as bs → as.length = bs.length
  | _, _, .nil => rfl
  | _, _, .cons _ b => congrArg Nat.succ (paired_len b)
theorem paired_at {α β : Type} {R : α → β → Prop} : ∀ {as : List α} {bs : List β}, Paired R as bs → ∀ {i : Nat} {b : β}, bs[i]? = some b → ∃ a, as[i]? = some a ∧ R a b
  | _, _, .nil, _, _, h => by simp at h
  | _, _, .cons a b, 0, _, h => by cases h; exact ⟨_, rfl, a⟩
  | _, _, .cons a b, i + 1, _, h => paired_at b h
section
variable {P : Program} {w : World} {K : PySem.W.Frag} {mg : Str → Option Value} {base : Heap}
def sp_like (n : Nat) : Sp := fun vs H Q _ => ∃ (x y : V) (d : PyData), vs = [x, y] ∧ Is H n d x ∧ Is H n d y ∧ ∀ H', Same H H' → Q (.bl true) H'
def lk : Nat → Sp
  | 0 => fun _ _ _ _ => False
  | n + 1 => sp_like n
theorem none_left {f : Addr} {fd : FuncData} {ps : List Str} {sp : Sp} (no : ∀ vs H Q E, ¬ sp vs H Q E) : FnOk P w K mg base CX0 0 f fd ps sp :=
  ⟨fun vs H Q E h => absurd h (no vs H Q E), fun A outer s H args us vs Q E _ _ _ _ h => absurd h (no vs H Q E)⟩
theorem all_trues : ∀ {zs : List V}, (∀ (i : Nat) (y : V), zs[i]? = some y → y = V.bl true) → zs = (List.replicate zs.length true).map V.bl
  | [], _ => rfl
  | z :: r, h => by
    have e : z = V.bl true := h 0 z rfl
    have ih := all_trues (zs := r) fun i y q => h (i + 1) y q
    rw [e, List.length_cons, List.replicate_succ, List.map_cons, ← ih]
theorem like_comp {m : Nat} {xs ys : List V} {ds : List PyData} {J : It} {G : Hp → Prop} {H1 : Hp} {u v : V} {Q : VK} (w : Walk J ds.length G (YPair (fun i => xs[i]?) (fun i => ys[i]?))) (hG : ∀ H2, Same H1 H2 → G H2)
    (px : Paired (Is H1 m) ds xs) (py : Paired (Is H1 m) ds ys) (q : ∀ H', Same H1 H' → Q (.bl true) H') (hl : ds.length ≤ 1000) :
    LcJ (gTup K 2 (gCons (gName 2) (gCons (gName 3) gNil))) tYes (tCall (lk (m + 1)) [] E0 (tCons (tVar 2) (tCons (tVar 3) tNil))) [2, 3] [some u, some v, none, none] (fun x H1 => rAll K [x] H1 Q) J H1 := by
  refine lcS w (fun i y => y = .bl true) hG (by omega) (fun i x H H' R hi s1 hy k => ?_) (fun D H zs hD s1 hz hlen hall => ?_)
  · obtain ⟨Tt, x1, y1, rfl, nT, rfl, e1, e2⟩ := hy
    walk_at "wp"
    refine ⟨_, .inl (.inl upd_same), ?_⟩
    walk_at "wp"
    obtain ⟨d, d1, d2⟩ := paired_at px e1
    obtain ⟨d', d3, d4⟩ := paired_at py e2
    rw [d1] at d3
    cases d3
    have s2 : Same H1 (upd H Tt (.tup [x1, y1])) := s1.trans (same_upd nT)
    exact ⟨x1, y1, d, rfl, d2.same s2, d4.same s2, fun H' s3 => k _ _ ((same_upd nT).trans s3) rfl⟩
  · refine ⟨D, List.replicate zs.length true, rfl, .inl (.inl (by rw [← all_trues hall]; exact hz)), ?_⟩
    have e : (List.replicate zs.length true).all id = true := by simp
    rw [e]
    exact q _ s1
theorem ok_like (T : Txt K mg) : ∀ n : Nat, FnOk P w K mg base CX0 n T.l_like.f T.l_like.d ["_law_found", "_law_due"] (lk n)
  | 0 => none_left fun _ _ _ _ h => h
  | n + 1 => by
    have G_l_like := ok_like T n
    refine T.l_like.F.ok sc_l_like (fun vs H Q E h => ?_) (fun cdv A outer s H vs Q E hr h => ?_)
    · obtain ⟨x, y, d, rfl, _⟩ := h
      rfl
    obtain ⟨x, y, d, rfl, hx, hy, q⟩ := h
    refine ⟨_, (pss_cons (ps_if (pt_val (pe_callB call_isiFT (by rfl) T.z_isinstance (by decide +kernel) (pa_cons (pv 1) (pa_cons (pe_tup (pa_cons (pe_tyb "list" (by rfl) T.z_list (by decide +kernel)) (pa_cons (pe_tyb "tuple" (by rfl) T.z_tuple (by decide +kernel)) pa_nil))) pa_nil))))
      (pss_cons (ps_if (PW.pt (pw_or (pt_cmpR op_ne (pe_callB call_isiF (by rfl) T.z_isinstance (by decide +kernel) (pa_cons (pv 0) (pa_cons (pe_tyb "list" (by rfl) T.z_list (by decide +kernel)) pa_nil))) (pe_callB call_isiF (by rfl) T.z_isinstance (by decide +kernel) (pa_cons (pv 1) (pa_cons (pe_tyb "list" (by rfl) T.z_list (by decide +kernel)) pa_nil))) (nomark _)) (pw_or1 (pt_cmpR op_ne (pe_callB call_isiF (by rfl) T.z_isinstance (by decide +kernel) (pa_cons (pv 0) (pa_cons (pe_tyb "tuple" (by rfl) T.z_tuple (by decide +kernel)) pa_nil))) (pe_callB call_isiF (by rfl) T.z_isinstance (by decide +kernel) (pa_cons (pv 1) (pa_cons (pe_tyb "tuple" (by rfl) T.z_tuple (by decide +kernel)) pa_nil))) (nomark _)))))
      (pss_one (ps_ret pe_bl))
      pss_nil)
      (pss_one (ps_ret (pe_and (pe_cmpR op_eq (pe_callB call_len (by rfl) T.z_len PySem.boot_len (pa_cons (pv 0) pa_nil)) (pe_callB call_len (by rfl) T.z_len PySem.boot_len (pa_cons (pv 1) pa_nil)) (nomark _)) (pe_one (pe_callB (cr_all rfl) (by rfl) T.z_all (by decide +kernel) (pa_cons (pe_lc (own := [("_law_a", 2), ("_law_b", 3)]) (g := (gTup K 2 (gCons (gName 2) (gCons (gName 3) gNil)))) rfl sc_l_like.nd (RZ.pi_zipA (by rfl) T.z_zip (pa_cons (pv 0) (pa_cons (pv 1) pa_nil))) (blkOk_by (own := [("_law_a", 2), ("_law_b", 3)]) (N := ["_law_found", "_law_due", "_law_a", "_law_b"]) (sc := defScope s_l_like) (by decide +kernel)) (fun _ _ _ _ _ => (pg_tup rfl (pgs_cons (pg_name (i := 2) sc_l_like.nd rfl (.inl rfl)) (pgs_cons (pg_name (i := 3) sc_l_like.nd rfl (.inl rfl)) pgs_nil)))) (fun _ _ _ _ _ => pts_nil) (fun _ _ _ _ _ => (pe_call G_l_like (hr.mono (by omega)) (by rfl) T.l_like.g T.l_like.kp T.l_like.b .nil pass0 (pa_cons (pv 2) (pa_cons (pv 3) pa_nil))))) pa_nil)))))))
      pss_nil)
      (pss_cons (ps_if (PW.pt (pw_or (pt_cmpR op_isN (pv 1) pe_non (nomark _)) (pw_or1 (pt_cmpR op_isN (pv 0) pe_non (nomark _)))))
      (pss_one (ps_ret (pe_and (pe_cmpR op_isN (pv 1) pe_non (nomark _)) (pe_one (pe_cmpR op_isN (pv 0) pe_non (nomark _))))))
      pss_nil)
      (pss_cons (ps_if (PW.pt (pw_or (pt_val (pe_callB call_isiFT (by rfl) T.z_isinstance (by decide +kernel) (pa_cons (pv 0) (pa_cons (pe_tup (pa_cons (pe_tyb "list" (by rfl) T.z_list (by decide +kernel)) (pa_cons (pe_tyb "tuple" (by rfl) T.z_tuple (by decide +kernel)) pa_nil))) pa_nil)))) (pw_or1 (pt_cmpR op_ne (pe_callB call_isiF (by rfl) T.z_isinstance (by decide +kernel) (pa_cons (pv 0) (pa_cons (pe_tyb "bool" (by rfl) T.z_bool (by decide +kernel)) pa_nil))) (pe_callB call_isiF (by rfl) T.z_isinstance (by decide +kernel) (pa_cons (pv 1) (pa_cons (pe_tyb "bool" (by rfl) T.z_bool (by decide +kernel)) pa_nil))) (nomark _)))))
      (pss_one (ps_ret pe_bl))
      pss_nil)
      (pss_cons (ps_if (PW.pt (pw_or (pt_cmpR op_ne (pe_callB call_isiF (by rfl) T.z_isinstance (by decide +kernel) (pa_cons (pv 0) (pa_cons (pe_tyb "str" (by rfl) T.z_str (by decide +kernel)) pa_nil))) (pe_callB call_isiF (by rfl) T.z_isinstance (by decide +kernel) (pa_cons (pv 1) (pa_cons (pe_tyb "str" (by rfl) T.z_str (by decide +kernel)) pa_nil))) (nomark _)) (pw_or1 (pt_cmpR op_ne (pe_callB call_isiF (by rfl) T.z_isinstance (by decide +kernel) (pa_cons (pv 0) (pa_cons (pe_tyb "int" (by rfl) T.z_int (by decide +kernel)) pa_nil))) (pe_callB call_isiF (by rfl) T.z_isinstance (by decide +kernel) (pa_cons (pv 1) (pa_cons (pe_tyb "int" (by rfl) T.z_int (by decide +kernel)) pa_nil))) (nomark _)))))
      (pss_one (ps_ret pe_bl))
      pss_nil)
      (pss_one (ps_ret (pe_cmpR op_eq (pv 0) (pv 1) (nomark _)))))))), ?_⟩
    cases d with
    | none =>
      unfold Is at hx hy
      subst hx hy
      walk_at "wp"
      exact fun p hp => q _ (same_upd hp)
    | bool b =>
      unfold Is at hx hy
      subst hx hy
      walk_at "wp"
      exact fun p hp => fun p2 hp2 => q _ ((same_upd hp).trans (same_upd hp2))
    | int b =>
      unfold Is at hx hy
      subst hx hy
      walk_at "wp"
      exact fun p hp => fun p2 hp2 => q _ ((same_upd hp).trans (same_upd hp2))
    | str b =>
      unfold Is at hx hy
      subst hx hy
      walk_at "wp"
      exact fun p hp => fun p2 hp2 => q _ ((same_upd hp).trans (same_upd hp2))
    | dict b =>
      unfold Is at hx
      exact hx.elim
    | list ds =>
      cases n with
      | zero => unfold Is at hx; exact hx.elim
      | succ m =>
        unfold Is at hx hy
        obtain ⟨hl, a, xs, rfl, ha, pa⟩ := hx
        obtain ⟨_, c, ys, rfl, hc, pc⟩ := hy
        walk_at "wp"
        intro p hp
        have s1 : Same H (upd H p (HO.tup [V.ty "list", V.ty "tuple"])) := same_upd hp
        have va := vty_same (vty_lst ha) s1
        have vc := vty_same (vty_lst hc) s1
        refine ⟨_, vc, ?_⟩
        walk_at "wp"
        refine ⟨_, va, _, vc, ?_⟩
        walk_at "wp"
        refine ⟨_, va, _, vc, ?_⟩
        walk_at "wp"
        have l1 := paired_len pa
        have l2 := paired_len pc
        refine ⟨xs.length, Or.inl ⟨xs, .inl (.inl (s1 _ _ ha)), rfl⟩, ys.length, Or.inl ⟨ys, .inl (.inl (s1 _ _ hc)), rfl⟩, ?_⟩
        have e0 : ((xs.length : Nat) : Int) = (ys.length : Nat) := by rw [← l1, l2]
        rw [if_pos e0]
        refine ⟨xs, ys, .inl ⟨.inl (.inl (s1 _ _ ha)), .inl (.inl (s1 _ _ hc)), ?_⟩⟩
        exact like_comp (walk_zip (xs := xs) (ys := ys) (by omega)) (fun H2 s2 => ⟨.inl (.inl (s2 _ _ (s1 _ _ ha))), .inl (.inl (s2 _ _ (s1 _ _ hc)))⟩) (paired_mono (fun _ _ z => z.same s1) pa) (paired_mono (fun _ _ z => z.same s1) pc) (fun H' s2 => q _ (s1.trans s2)) hl
    | tuple ds =>
      cases n with
      | zero => unfold Is at hx; exact hx.elim
      | succ m =>
        unfold Is at hx hy
        obtain ⟨hl, a, xs, rfl, ha, pa⟩ := hx
        obtain ⟨_, c, ys, rfl, hc, pc⟩ := hy
        walk_at "wp"
        intro p hp
        have s1 : Same H (upd H p (HO.tup [V.ty "list", V.ty "tuple"])) := same_upd hp
        have va := vty_same (vty_tup ha) s1
        have vc := vty_same (vty_tup hc) s1
        refine ⟨_, vc, ?_⟩
        walk_at "wp"
        refine ⟨_, va, _, vc, ?_⟩
        walk_at "wp"
        refine ⟨_, va, _, vc, ?_⟩
        walk_at "wp"
        have l1 := paired_len pa
        have l2 := paired_len pc
        refine ⟨xs.length, Or.inr ⟨xs, .inl (.inl (s1 _ _ ha)), rfl⟩, ys.length, Or.inr ⟨ys, .inl (.inl (s1 _ _ hc)), rfl⟩, ?_⟩
        have e0 : ((xs.length : Nat) : Int) = (ys.length : Nat) := by rw [← l1, l2]
        rw [if_pos e0]
        refine ⟨xs, ys, .inr ⟨.inl (.inl (s1 _ _ ha)), .inl (.inl (s1 _ _ hc)), ?_⟩⟩
        exact like_comp (walk_zipT (xs := xs) (ys := ys) (by omega)) (fun H2 s2 => ⟨.inl (.inl (s2 _ _ (s1 _ _ ha))), .inl (.inl (s2 _ _ (s1 _ _ hc)))⟩) (paired_mono (fun _ _ z => z.same s1) pa) (paired_mono (fun _ _ z => z.same s1) pc) (fun H' s2 => q _ (s1.trans s2)) hl
end
end Kx

set_option Elab.async false
set_option linter.all false
set_option maxRecDepth 100000
set_option maxHeartbeats 4000000
namespace Kx
open PySem PySem.Spec PyProof.Rows L2
local macro_rules | `(tactic| walk_at "wp") => `(tactic| simp only [tSeq, tAsg, tC, tVar, tOp, tUn, rI, rI0, rU, tCB, tCons, tNil, tRet, tRetN, tDrop, tLst, tTup, tIf_eq, tIfS_eq, ifk_t, ifk_f, iek_t, iek_f, tTest, tB, tAnd, tOr, tNot, tAndV, tOrV, tNotV, tNext, tSl, rSlL, tPart, tNoPart, gName, gTup, gCons, gNil, gSub, rSetL, tCall, iList, iTup, iRng1, iRng2, rIxL, rIxT, rEq, rNe, scal_ii, scal_bb, scal_ss, scal_nx, scal_xn, RZ.iZipA, rIsiF, rIsiFT, vty_non, vty_bl, vty_int, vty_str, isa_list_list, isa_list_tuple, isa_list_bool, isa_list_int, isa_list_str, isa_tuple_list, isa_tuple_tuple, isa_tuple_bool, isa_tuple_int, isa_tuple_str, isa_dict_list, isa_dict_tuple, isa_dict_bool, isa_dict_int, isa_dict_str, isa_bool_list, isa_bool_tuple, isa_bool_bool, isa_bool_int, isa_bool_str, isa_int_list, isa_int_tuple, isa_int_bool, isa_int_int, isa_int_str, isa_str_list, isa_str_tuple, isa_str_bool, isa_str_int, isa_str_str, isa_non_list, isa_non_tuple, isa_non_bool, isa_non_int, isa_non_str, kc_bool, kc_int, kc_str, kc_list, kc_tuple, upd_same, HO.tup.injEq, HO.lst.injEq, V.ty.injEq, Bool.or_true, Bool.true_or, Bool.or_false, Bool.false_or, sz_0, sz_1, sz_2, sz_3, sz_4, sz_5, sz_6, sz_7, sz_8, sz_9, sz_10, sz_11, sz_12, sz_13, decide_true, decide_false, C8.tCut, tPar, tCallN,  tDisp, tPairs, rSlS, rLenS, rLenV, rListOf, rTupOf, tM0, tM1, iStr, wipe, tYes, tFor_eq, tLc_eq, L2.start, cxOf, Cx.nox, Cx.wish, List.map_cons, List.map_nil, List.length_cons, List.length_nil, List.replicate, List.cons_append, List.nil_append, List.getElem?_cons_zero, List.getElem?_cons_succ, List.set_cons_zero, List.set_cons_succ, Option.some.injEq, and_assoc, exists_and_left, exists_and_right, exists_eq_left', exists_eq_left, exists_eq, exists_eq', true_and, and_true, Nat.reduceSub, Nat.reduceAdd, V.int.injEq, V.ref.injEq, V.bl.injEq, V.str.injEq, List.cons.injEq, decide_eq_true_eq, reduceCtorEq, false_or, or_false, and_false, false_and, exists_false, exists_const, if_true, if_false, Bool.true_eq_false, Bool.false_eq_true, ite_true, ite_false, Bool.not_true, Bool.not_false, decide_eq_false_iff_not, ne_eq])

/-! ### rows -/
abbrev Row := List (Option Int)
def valV : Option Int → V
  | none => .non
  | some i => .int i
def rowV (r : Row) : List V := r.map valV
def valD : Option Int → PyData
  | none => .none
  | some i => .int i
def rowD (r : Row) : PyData := .tuple (r.map valD)
def RowOk (k : Int) (r : Row) : Prop := ∀ i, some i ∈ r → 0 ≤ i ∧ i < k
theorem is_val {H : Hp} {n : Nat} {o : Option Int} : Is H n (valD o) (valV o) := by
  cases o <;> (unfold valD valV Is; rfl)
theorem of_is_val {H : Hp} {n : Nat} {o : Option Int} {v : V} (h : Is H n (valD o) v) : v = valV o := by
  cases o <;> (unfold valD Is at h; exact h)
theorem paired_row {H : Hp} {n : Nat} : ∀ (r : Row), Paired (Is H n) (r.map valD) (rowV r)
  | [] => .nil
  | _ :: r => .cons is_val (paired_row r)
theorem of_paired_row {H : Hp} {n : Nat} : ∀ {r : Row} {xs : List V}, Paired (Is H n) (r.map valD) xs → xs = rowV r
  | [], _, h => by cases h; rfl
  | o :: r, _, h => by
    cases h with
    | cons a b =>
      rw [of_is_val a, of_paired_row b]
      rfl
theorem is_row {H : Hp} {n : Nat} {r : Row} {a : Addr} (h : H a = some (.tup (rowV r))) (hl : r.length ≤ 1000) : Is H (n + 1) (rowD r) (.ref a) := by
  unfold rowD Is
  exact ⟨by rw [List.length_map]; exact hl, a, _, rfl, h, paired_row r⟩
theorem of_is_row {H : Hp} {n : Nat} {r : Row} {v : V} (h : Is H (n + 1) (rowD r) v) : ∃ a, v = .ref a ∧ H a = some (.tup (rowV r)) := by
  unfold rowD Is at h
  obtain ⟨_, a, xs, e, h1, h2⟩ := h
  rw [of_paired_row h2] at h1
  exact ⟨a, e, h1⟩
section
variable {P : Program} {w : World} {K : PySem.W.Frag} {mg : Str → Option Value} {base : Heap}
def valsOf (k : Int) : List V := [V.non, .int 0, .int 1, .int 2].take (k + 1).toNat
def sp_values : Sp := fun vs H Q _ => ∃ k : Int, vs = [.int k] ∧ (k = 2 ∨ k = 3) ∧ ∀ p H', H p = none → Same H H' → H' p = some (.lst (valsOf k)) → Q (.ref p) H'
theorem cut_take {xs : List V} {k : Int} (h : 0 ≤ k) : cutV xs none (some k) = xs.take k.toNat := by
  unfold cutV
  rw [HT.sIx_none, List.drop_zero, Nat.sub_zero]
  obtain ⟨n, rfl⟩ : ∃ n : Nat, k = (n : Int) := ⟨k.toNat, by omega⟩
  rw [HT.sIx_nat, Int.toNat_natCast]
  exact (List.take_eq_take_min).symm
theorem ok_values (T : Txt K mg) : FnOk P w K mg base CX0 1 T.l_values.f T.l_values.d ["_law_base"] sp_values := by
  refine T.l_values.F.ok sc_l_values (fun vs H Q E h => ?_) (fun cdv A outer s H vs Q E hr h => ?_)
  · obtain ⟨k, rfl, _⟩ := h
    rfl
  obtain ⟨k, rfl, hk, q⟩ := h
  refine ⟨_, (pss_one (ps_ret (pe_slice sl_list (pe_lst (pa_cons pe_non (pa_cons pe_int (pa_cons pe_int (pa_cons pe_int pa_nil))))) po_none (po_some (pe_op op_add (pv 0) pe_int))))), ?_⟩
  walk_at "wp"
  intro p hp
  refine ⟨_, .inl (.inl upd_same), fun t ht => ?_⟩
  refine q _ _ ((same_upd hp).free ht) ((same_upd hp).trans (same_upd ht)) ?_
  rw [upd_same, cut_take (by omega)]
  rfl
def sp_row (K : PySem.W.Frag) : Sp := fun vs H Q _ => ∃ (B : BagId) (n k : Int), vs = [.ref B.b, .int n, .int k] ∧ Bag B H ∧ 0 ≤ n ∧ n ≤ 100 ∧ (k = 2 ∨ k = 3) ∧
  ∀ (t : Addr) (r : Row) H', H t = none → Ext B H H' → cut B.b H' t = some (.tup (rowV r)) → (r.length : Int) = n → RowOk k r → Q (.ref t) H'
theorem mem_vals {k : Int} (hk : k = 2 ∨ k = 3) {v : V} (h : v ∈ valsOf k) : ∃ o : Option Int, v = valV o ∧ ∀ i, some i = o → 0 ≤ i ∧ i < k := by
  rcases hk with rfl | rfl
  · have h : v ∈ [V.non, .int 0, .int 1] := h
    simp only [List.mem_cons, List.not_mem_nil, or_false] at h
    rcases h with rfl | rfl | rfl
    · exact ⟨none, rfl, fun i hi => by cases hi⟩
    · exact ⟨some 0, rfl, fun i hi => by cases hi; decide⟩
    · exact ⟨some 1, rfl, fun i hi => by cases hi; decide⟩
  · have h : v ∈ [V.non, .int 0, .int 1, .int 2] := h
    simp only [List.mem_cons, List.not_mem_nil, or_false] at h
    rcases h with rfl | rfl | rfl | rfl
    · exact ⟨none, rfl, fun i hi => by cases hi⟩
    · exact ⟨some 0, rfl, fun i hi => by cases hi; decide⟩
    · exact ⟨some 1, rfl, fun i hi => by cases hi; decide⟩
    · exact ⟨some 2, rfl, fun i hi => by cases hi; decide⟩
theorem vals_pos {k : Int} (hk : k = 2 ∨ k = 3) : 0 < (valsOf k).length ∧ (valsOf k).length < 1000000 := by
  rcases hk with rfl | rfl <;> exact ⟨by decide, by decide⟩
theorem row_of : ∀ {k : Int} {ys : List V}, (∀ (i : Nat) (y : V), ys[i]? = some y → ∃ o : Option Int, y = valV o ∧ ∀ i, some i = o → 0 ≤ i ∧ i < k) → ∃ r : Row, ys = rowV r ∧ RowOk k r
  | _, [], _ => ⟨[], rfl, fun i hi => by simp at hi⟩
  | k, y :: ys, h => by
    obtain ⟨o, rfl, ho⟩ := h 0 y rfl
    obtain ⟨r, rfl, hr⟩ := row_of (ys := ys) fun i y e => h (i + 1) y e
    refine ⟨o :: r, rfl, fun i hi => ?_⟩
    rcases List.mem_cons.mp hi with e | e
    · exact ho i e
    · exact hr i e
theorem ok_row (T : Txt K mg) : FnOk P w K mg base CX0 3 T.l_row.f T.l_row.d ["_law_bag_here", "_law_n", "_law_base"] (sp_row K) := by
  have G_l_of : FnOk P w K mg base CX0 2 T.l_of.f T.l_of.d ["_law_bag_here", "_law_things"] (sp_of K) := ok_of T
  have G_l_values : FnOk P w K mg base CX0 1 T.l_values.f T.l_values.d ["_law_base"] sp_values := ok_values T
  refine T.l_row.F.ok sc_l_row (fun vs H Q E h => ?_) (fun cdv A outer s H vs Q E hr h => ?_)
  · obtain ⟨B, n, k, rfl, _⟩ := h
    rfl
  obtain ⟨B, n, k, rfl, hB, hn0, hn1, hk, q⟩ := h
  refine ⟨_, (pss_one (ps_ret (pe_callTy call_tuple_of (by rfl) T.z_tuple (by decide +kernel) (pa_cons (pe_lc (own := [("_law_k", 3)]) (g := gName 3) rfl sc_l_row.nd (pi_range1 (by rfl) T.z_range (pa_cons (pv 1) pa_nil)) (blkOk_by (own := [("_law_k", 3)]) (N := ["_law_bag_here", "_law_n", "_law_base", "_law_k"]) (sc := defScope s_l_row) (by decide +kernel)) (fun _ _ _ _ _ => (pg_name (i := 3) sc_l_row.nd rfl (.inl rfl))) (fun _ _ _ _ _ => pts_nil) (fun _ _ _ _ _ => (pe_call G_l_of (hr.mono (by omega)) (by rfl) T.l_of.g T.l_of.kp T.l_of.b .nil pass0 (pa_cons (pv 0) (pa_cons (pe_call G_l_values (hr.mono (by omega)) (by rfl) T.l_values.g T.l_values.kp T.l_values.b .nil pass0 (pa_cons (pv 2) pa_nil)) pa_nil))))) pa_nil)))), ?_⟩
  walk_at "wp"
  refine ⟨by omega, by omega, ?_⟩
  refine lcB (B := B) (walk_range (n := n.toNat)) (fun i y => ∃ o : Option Int, y = valV o ∧ ∀ i, some i = o → 0 ≤ i ∧ i < k) hB (fun _ _ => trivial) (by omega) (fun i x H1 H2 R hi e1 hy c => ?_) (fun D H1 ys hD e1 hz hlen hall => ?_)
  · obtain ⟨rfl, rfl⟩ := hy
    walk_at "wp"
    refine ⟨k, rfl, hk, fun p H3 hp s3 hv => ?_⟩
    have e3 : Ext B H2 H3 := .of_same e1.bag s3
    have v3 : cut B.b H3 p = some (.lst (valsOf k)) := cut_of hv (e1.bag.fresh hp)
    refine ⟨B, p, valsOf k, rfl, e3.bag, .inl (.inl v3), (vals_pos hk).1, (vals_pos hk).2, fun v H4 hm e4 => c _ _ (e3.trans e4) (mem_vals hk hm)⟩
  · obtain ⟨r, rfl, hro⟩ := row_of hall
    have hz' := (cut_some hz).1
    refine ⟨_, rfl, rowV r, .inl ⟨.inl (.inl hz'), fun l hl => q l r _ (e1.free hl) (e1.trans (.new e1.bag hl)) (cut_new e1.bag hl) ?_ hro⟩⟩
    have : (rowV r).length = r.length := List.length_map _
    omega
end
end Kx

set_option Elab.async false
set_option linter.all false
set_option maxRecDepth 100000
set_option maxHeartbeats 4000000
namespace Kx
open PySem PySem.Spec PyProof.Rows L2
local macro_rules | `(tactic| walk_at "wp") => `(tactic| simp only [tSeq, tAsg, tC, tVar, tOp, tUn, rI, rI0, rU, tCB, tCons, tNil, tRet, tRetN, tDrop, tLst, tTup, tIf_eq, tIfS_eq, ifk_t, ifk_f, iek_t, iek_f, tTest, tB, tAnd, tOr, tNot, tAndV, tOrV, tNotV, tNext, tSl, rSlL, tPart, tNoPart, gName, gTup, gCons, gNil, gSub, rSetL, tCall, iList, iTup, iRng1, iRng2, rIxL, rIxT, rEq, rNe, scal_ii, scal_bb, scal_ss, scal_nx, scal_xn, RZ.iZipA, rIsiF, rIsiFT, vty_non, vty_bl, vty_int, vty_str, isa_list_list, isa_list_tuple, isa_list_bool, isa_list_int, isa_list_str, isa_tuple_list, isa_tuple_tuple, isa_tuple_bool, isa_tuple_int, isa_tuple_str, isa_dict_list, isa_dict_tuple, isa_dict_bool, isa_dict_int, isa_dict_str, isa_bool_list, isa_bool_tuple, isa_bool_bool, isa_bool_int, isa_bool_str, isa_int_list, isa_int_tuple, isa_int_bool, isa_int_int, isa_int_str, isa_str_list, isa_str_tuple, isa_str_bool, isa_str_int, isa_str_str, isa_non_list, isa_non_tuple, isa_non_bool, isa_non_int, isa_non_str, kc_bool, kc_int, kc_str, kc_list, kc_tuple, upd_same, HO.tup.injEq, HO.lst.injEq, V.ty.injEq, Bool.or_true, Bool.true_or, Bool.or_false, Bool.false_or, sz_0, sz_1, sz_2, sz_3, sz_4, sz_5, sz_6, sz_7, sz_8, sz_9, sz_10, sz_11, sz_12, sz_13, decide_true, decide_false, C8.tCut, tPar, tCallN,  tDisp, tPairs, rSlS, rLenS, rLenV, rListOf, rTupOf, tM0, tM1, iStr, wipe, tYes, tFor_eq, tLc_eq, L2.start, cxOf, Cx.nox, Cx.wish, List.map_cons, List.map_nil, List.length_cons, List.length_nil, List.replicate, List.cons_append, List.nil_append, List.getElem?_cons_zero, List.getElem?_cons_succ, List.set_cons_zero, List.set_cons_succ, Option.some.injEq, and_assoc, exists_and_left, exists_and_right, exists_eq_left', exists_eq_left, exists_eq, exists_eq', true_and, and_true, Nat.reduceSub, Nat.reduceAdd, V.int.injEq, V.ref.injEq, V.bl.injEq, V.str.injEq, List.cons.injEq, decide_eq_true_eq, reduceCtorEq, false_or, or_false, and_false, false_and, exists_false, exists_const, if_true, if_false, Bool.true_eq_false, Bool.false_eq_true, ite_true, ite_false, Bool.not_true, Bool.not_false, decide_eq_false_iff_not, ne_eq])

section
variable {P : Program} {w : World} {K : PySem.W.Frag} {mg : Str → Option Value} {base : Heap}
/-- any value: of a known kind, a text not too long -/
def Any (H : Hp) (v : V) : Prop := (∃ n, vty v H = some n) ∧ ∀ z, v = .str z → z.length ≤ 1000
theorem Any.same {H H' : Hp} {v : V} (h : Any H v) (e : Same H H') : Any H' v := by
  obtain ⟨⟨n, hn⟩, hz⟩ := h
  exact ⟨⟨n, vty_same hn e⟩, hz⟩
theorem any_int {H : Hp} {i : Int} : Any H (.int i) := ⟨⟨_, rfl⟩, fun z e => by cases e⟩
theorem any_non {H : Hp} : Any H .non := ⟨⟨_, rfl⟩, fun z e => by cases e⟩
theorem any_bl {H : Hp} {b : Bool} : Any H (.bl b) := ⟨⟨_, rfl⟩, fun z e => by cases e⟩
theorem any_str {H : Hp} {z : Str} (h : z.length ≤ 1000) : Any H (.str z) := ⟨⟨_, rfl⟩, fun y e => by cases e; exact h⟩
theorem any_lst {H : Hp} {a : Addr} {xs : List V} (h : H a = some (.lst xs)) : Any H (.ref a) := ⟨⟨_, vty_lst h⟩, fun z e => by cases e⟩
theorem any_tup {H : Hp} {a : Addr} {xs : List V} (h : H a = some (.tup xs)) : Any H (.ref a) := ⟨⟨_, vty_tup h⟩, fun z e => by cases e⟩
theorem any_dK {H : Hp} {a : Addr} {xs : List (Key × V)} (h : H a = some (.dK xs)) : Any H (.ref a) := ⟨⟨_, vty_dK h⟩, fun z e => by cases e⟩
def sp_any (m : Nat) : Sp := fun vs H Q _ => ∃ (B : BagId), vs = [.ref B.b, .int (m : Nat)] ∧ Bag B H ∧ ∀ v H', Ext B H H' → Any (cut B.b H') v → Q v H'
def lkA : Nat → Sp
  | 0 => fun _ _ _ _ => False
  | m + 1 => sp_any m
theorem iek_c {σ : L2.St} {H : Hp} {Q : VK} {x y : V} {p : Prop} [Decidable p] (h : ∀ v, (p → v = x) → (¬ p → v = y) → Q v H) : IeK (tC x) (tC y) σ Q (decide p) H := by
  refine iek (fun c => h _ (fun _ => rfl) (fun z => absurd c z)) (fun c => h _ (fun z => absurd z c) (fun _ => rfl))
theorem any_step (T : Txt K mg) {m k k' : Nat} (hk : 2 ≤ k) (hk' : k' ≤ k) (G_l_any : FnOk P w K mg base CX0 k' T.l_any.f T.l_any.d ["_law_bag_here", "_law_deep_here"] (lkA m)) :
    FnOk P w K mg base CX0 (k + 1) T.l_any.f T.l_any.d ["_law_bag_here", "_law_deep_here"] (lkA (m + 1)) := by
  have G_l_draw : FnOk P w K mg base CX0 1 T.l_draw.f T.l_draw.d ["_law_bag_here", "_law_size"] sp_draw := ok_draw T
  have G_l_of : FnOk P w K mg base CX0 2 T.l_of.f T.l_of.d ["_law_bag_here", "_law_things"] (sp_of K) := ok_of T
  refine T.l_any.F.ok sc_l_any (fun vs H Q E h => ?_) (fun cdv A outer s H vs Q E hr h => ?_)
  · obtain ⟨B, rfl, _⟩ := h
    rfl
  obtain ⟨B, rfl, hB, q⟩ := h
  refine ⟨_, (pss_cons (ps_set (i := 2) sc_l_any.nd rfl (.inl rfl) (pe_call G_l_draw (hr.mono (by omega)) (by rfl) T.l_draw.g T.l_draw.kp T.l_draw.b .nil pass0 (pa_cons (pv 0) (pa_cons (pe_ifExp (pt_cmpR op_eq (pv 1) pe_int (nomark _)) pe_int pe_int) pa_nil))))
      (pss_cons (ps_if (pt_cmpR op_lt (pv 2) pe_int (nomark _))
      (pss_one (ps_ret (pe_ix ix_list (pe_lst (pa_cons pe_non (pa_cons pe_bl (pa_cons pe_bl pa_nil)))) (pv 2) (fun _ _ => rfl))))
      pss_nil)
      (pss_cons (ps_if (pt_cmpR op_lt (pv 2) pe_int (nomark _))
      (pss_one (ps_ret (pe_call G_l_of (hr.mono (by omega)) (by rfl) T.l_of.g T.l_of.kp T.l_of.b .nil pass0 (pa_cons (pv 0) (pa_cons (pe_lst (pa_cons pe_int (pa_cons pe_int (pa_cons pe_int (pa_cons pe_int (pa_cons (pe_op op_sub pe_int pe_int) (pa_cons (pe_call G_l_draw (hr.mono (by omega)) (by rfl) T.l_draw.g T.l_draw.kp T.l_draw.b .nil pass0 (pa_cons (pv 0) (pa_cons pe_int pa_nil))) (pa_cons (pe_op op_sub pe_int (pe_call G_l_draw (hr.mono (by omega)) (by rfl) T.l_draw.g T.l_draw.kp T.l_draw.b .nil pass0 (pa_cons (pv 0) (pa_cons pe_int pa_nil)))) pa_nil)))))))) pa_nil)))))
      pss_nil)
      (pss_cons (ps_if (pt_cmpR op_lt (pv 2) pe_int (nomark _))
      (pss_one (ps_ret (pe_call G_l_of (hr.mono (by omega)) (by rfl) T.l_of.g T.l_of.kp T.l_of.b .nil pass0 (pa_cons (pv 0) (pa_cons (pe_lst (pa_cons pe_str (pa_cons pe_str (pa_cons pe_str (pa_cons pe_str (pa_cons pe_str (pa_cons pe_str pa_nil))))))) pa_nil)))))
      pss_nil)
      (pss_cons (ps_setLc (i := 3) (own := [("_law_k", 4)]) (g := gName 4) rfl sc_l_any.nd rfl rfl (sw_true rfl rfl rfl (by decide +kernel)) (pi_range1 (by rfl) T.z_range (pa_cons (pe_call G_l_draw (hr.mono (by omega)) (by rfl) T.l_draw.g T.l_draw.kp T.l_draw.b .nil pass0 (pa_cons (pv 0) (pa_cons pe_int pa_nil))) pa_nil)) (blkOk_by (own := [("_law_k", 4)]) (N := ["_law_bag_here", "_law_deep_here", "_law_pick", "_law_parts", "_law_k"]) (sc := defScope s_l_any) (by decide +kernel)) (fun _ _ _ _ _ => (pg_name (i := 4) sc_l_any.nd rfl (.inl rfl))) (fun _ _ _ _ _ => pts_nil) (fun _ _ _ _ _ => (pe_call G_l_any (hr.mono (by omega)) (by rfl) T.l_any.g T.l_any.kp T.l_any.b .nil pass0 (pa_cons (pv 0) (pa_cons (pe_op op_sub (pv 1) pe_int) pa_nil)))))
      (pss_cons (ps_if (pt_cmpR op_eq (pv 2) pe_int (nomark _))
      (pss_one (ps_ret (pe_disp (pps_cons pe_str (pv 3) (pps_cons pe_str pe_int pps_nil)) (by rfl) (by rfl) (fun z => by cases z) (by decide))))
      pss_nil)
      (pss_one (ps_ret (pe_ifExp (pt_cmpR op_lt (pv 2) pe_int (nomark _)) (pv 3) (pe_callTy call_tuple_of (by rfl) T.z_tuple (by decide +kernel) (pa_cons (pv 3) pa_nil))))))))))), ?_⟩
  walk_at "wp"
  refine iek_c fun v v1 v2 => ?_
  obtain ⟨n, rfl, n1, n2⟩ : ∃ n : Int, v = .int n ∧ (m = 0 → n = 9) ∧ (n = 9 ∨ n = 13) := by
    by_cases c : ((m : Nat) : Int) = 0
    · exact ⟨9, v1 c, fun _ => rfl, .inl rfl⟩
    · exact ⟨13, v2 c, fun z => absurd (by rw [z]; rfl) c, .inr rfl⟩
  refine ⟨B, n, rfl, hB, by omega, by omega, fun pick H1 e1 h0 h1 => ?_⟩
  walk_at "wp"
  refine ifk (fun c1 => ?_) (fun c1 => ?_)
  · walk_at "wp"
    intro p hp
    have : pick = 0 ∨ pick = 1 ∨ pick = 2 := by omega
    have e2 : Ext B H1 (upd H1 p (.lst [.non, .bl true, .bl false])) := .new e1.bag hp
    rcases this with rfl | rfl | rfl
    · exact ⟨_, .inl (.inl upd_same), _, rfl, q _ _ (e1.trans e2) any_non⟩
    · exact ⟨_, .inl (.inl upd_same), _, rfl, q _ _ (e1.trans e2) any_bl⟩
    · exact ⟨_, .inl (.inl upd_same), _, rfl, q _ _ (e1.trans e2) any_bl⟩
  walk_at "wp"
  refine ifk (fun c2 => ?_) (fun c2 => ?_)
  · walk_at "wp"
    refine ⟨B, _, rfl, e1.bag, by decide, by decide, fun k2 H2 e2 _ _ => ⟨B, _, rfl, e2.bag, by decide, by decide, fun k3 H3 e3 _ _ => ?_⟩⟩
    walk_at "wp"
    intro p hp
    have e4 := Ext.new (o := HO.lst [V.int 0, V.int 1, V.int 2, V.int 3, V.int (0 - 1), V.int k2, V.int (0 - k3)]) e3.bag hp
    refine ⟨B, p, _, rfl, e4.bag, .inl (.inl (cut_new e3.bag hp)), by simp, by simp, fun v H5 hm e5 => q _ _ (e1.trans (e2.trans (e3.trans (e4.trans e5)))) ?_⟩
    simp only [List.mem_cons, List.not_mem_nil, or_false] at hm
    rcases hm with rfl | rfl | rfl | rfl | rfl | rfl | rfl <;> exact any_int
  walk_at "wp"
  refine ifk (fun c3 => ?_) (fun c3 => ?_)
  · walk_at "wp"
    intro p hp
    have e4 := Ext.new (o := HO.lst [V.str (Str.ofString ""), V.str (Str.ofString "0"), V.str (Str.ofString "or"), V.str (Str.ofString "~"), V.str (Str.ofString "a b"), V.str (Str.ofString "box\n")]) e1.bag hp
    refine ⟨B, p, _, rfl, e4.bag, .inl (.inl (cut_new e1.bag hp)), by decide, by decide, fun v H5 hm e5 => q _ _ (e1.trans (e4.trans e5)) ?_⟩
    simp only [List.mem_cons, List.not_mem_nil, or_false] at hm
    rcases hm with rfl | rfl | rfl | rfl | rfl | rfl <;> exact any_str (by decide)
  walk_at "wp"
  obtain ⟨m, rfl⟩ : ∃ j, m = j + 1 := ⟨m - 1, by omega⟩
  refine ⟨B, _, rfl, e1.bag, by decide, by decide, fun k2 H2 e2 hk0 hk1 => ?_⟩
  walk_at "wp"
  refine ⟨by omega, by omega, ?_⟩
  refine lcB (B := B) (walk_range (n := k2.toNat)) (fun _ _ => True) e2.bag (fun _ _ => trivial) (by omega) (fun i x H3 H4 R hi e3 hy c => ?_) (fun D H3 ys hD e3 hz hlen hall => ?_)
  · obtain ⟨rfl, rfl⟩ := hy
    walk_at "wp"
    refine ⟨B, ?_, e3.bag, fun v H5 e5 _ => c _ _ e5 trivial⟩
    congr 3
    omega
  · have e13 := e1.trans (e2.trans e3)
    have hzD := (cut_some hz).1
    refine ifk (fun c4 => ?_) (fun c4 => ?_)
    · walk_at "wp"
      intro p hp
      refine ⟨[(.inr "or", .ref D), (.inr "a", .int 0)], rfl, by simp, ?_⟩
      rw [upd_upd]
      exact q _ _ (e13.trans (.new e3.bag hp)) (any_dK (cut_new e3.bag hp))
    · walk_at "wp"
      refine iek (fun c5 => ?_) (fun c5 => ?_)
      · walk_at "wp"
        exact q _ _ e13 (any_lst hz)
      · walk_at "wp"
        exact ⟨ys, .inl ⟨.inl (.inl hzD), fun p hp => q _ _ (e13.trans (.new e3.bag hp)) (any_tup (cut_new e3.bag hp))⟩⟩
theorem ok_any (T : Txt K mg) : FnOk P w K mg base CX0 5 T.l_any.f T.l_any.d ["_law_bag_here", "_law_deep_here"] (sp_any 2) :=
  any_step T (m := 2) (k := 4) (k' := 4) (by decide) (by decide) (any_step T (m := 1) (k := 3) (k' := 3) (by decide) (by decide) (any_step T (m := 0) (k := 2) (k' := 0) (by decide) (by decide) (none_left fun _ _ _ _ h => h)))
end
end Kx

set_option Elab.async false
set_option linter.all false
set_option maxRecDepth 100000
set_option maxHeartbeats 4000000
namespace Kx
open PySem PySem.Spec PyProof.Rows L2
local macro_rules | `(tactic| walk_at "wp") => `(tactic| simp only [tSeq, tAsg, tC, tVar, tOp, tUn, rI, rI0, rU, tCB, tCons, tNil, tRet, tRetN, tDrop, tLst, tTup, tIf_eq, tIfS_eq, ifk_t, ifk_f, iek_t, iek_f, tTest, tB, tAnd, tOr, tNot, tAndV, tOrV, tNotV, tNext, tSl, rSlL, tPart, tNoPart, gName, gTup, gCons, gNil, gSub, rSetL, tCall, iList, iTup, iRng1, iRng2, rIxL, rIxT, rEq, rNe, scal_ii, scal_bb, scal_ss, scal_nx, scal_xn, RZ.iZipA, rIsiF, rIsiFT, vty_non, vty_bl, vty_int, vty_str, isa_list_list, isa_list_tuple, isa_list_bool, isa_list_int, isa_list_str, isa_tuple_list, isa_tuple_tuple, isa_tuple_bool, isa_tuple_int, isa_tuple_str, isa_dict_list, isa_dict_tuple, isa_dict_bool, isa_dict_int, isa_dict_str, isa_bool_list, isa_bool_tuple, isa_bool_bool, isa_bool_int, isa_bool_str, isa_int_list, isa_int_tuple, isa_int_bool, isa_int_int, isa_int_str, isa_str_list, isa_str_tuple, isa_str_bool, isa_str_int, isa_str_str, isa_non_list, isa_non_tuple, isa_non_bool, isa_non_int, isa_non_str, kc_bool, kc_int, kc_str, kc_list, kc_tuple, upd_same, HO.tup.injEq, HO.lst.injEq, V.ty.injEq, Bool.or_true, Bool.true_or, Bool.or_false, Bool.false_or, sz_0, sz_1, sz_2, sz_3, sz_4, sz_5, sz_6, sz_7, sz_8, sz_9, sz_10, sz_11, sz_12, sz_13, decide_true, decide_false, C8.tCut, tPar, tCallN,  tDisp, tPairs, rSlS, rLenS, rLenV, rListOf, rTupOf, tM0, tM1, iStr, wipe, tYes, tFor_eq, tLc_eq, L2.start, cxOf, Cx.nox, Cx.wish, List.map_cons, List.map_nil, List.length_cons, List.length_nil, List.replicate, List.cons_append, List.nil_append, List.getElem?_cons_zero, List.getElem?_cons_succ, List.set_cons_zero, List.set_cons_succ, Option.some.injEq, and_assoc, exists_and_left, exists_and_right, exists_eq_left', exists_eq_left, exists_eq, exists_eq', true_and, and_true, Nat.reduceSub, Nat.reduceAdd, V.int.injEq, V.ref.injEq, V.bl.injEq, V.str.injEq, List.cons.injEq, decide_eq_true_eq, reduceCtorEq, false_or, or_false, and_false, false_and, exists_false, exists_const, if_true, if_false, Bool.true_eq_false, Bool.false_eq_true, ite_true, ite_false, Bool.not_true, Bool.not_false, decide_eq_false_iff_not, ne_eq])

/-! ### exceptions as values -/
/-- C(..), C's own __init__ keeping sp; the exception is held as a value -/
def tMkV (C : Addr) (sp : Sp) (dvs : List V) (ta : TA) : TE := fun σ H Q => ta σ H fun vs H1 => vs.length ≤ 1000 ∧ ∀ a, H1 a = none → sp (.ref a :: (vs ++ dvs)) (upd H1 a (exo a C none))
  (fun v H2 => v = .non ∧ Q (.ref a) H2) (fun _ _ _ => False)
section
variable {X : Cx} {e : Expr} {es : List Expr} {ta : TA} {p pos : Pos} {pins : List (Addr × Obj)} {σ : L2.St}
theorem run_excV {CX : CXT} {C fI : Addr} {k : Nat} {fd : FuncData} {ps : List Str} {sp : Sp} {ds : List Value} {dvs : List V} (T : OexC X.K C) (iC : PySem.W.findIn X.K (.ref C) "__init__" = some (some (.ref fI))) (tI : PySem.W.typeIn X.K (.ref fI) = some (.type "function"))
    (F1 : FnOk X.prog X.w X.K X.mg X.base CX k fI fd ps sp) (hr : Room (k + 1) X.A) (hb : Binds X.K fd ps ds) (hd : Vals dvs ds) (hx : Passes CX X (fun _ _ _ => False)) {us : List Value} {vs : List V} {H1 : Hp} {s1 : Shared} {Q : VK}
    (I1 : Inv X pins σ H1 s1) (r1 : Vals vs us) (hz : vs.length ≤ 1000) (q1 : ∀ a, H1 a = none → sp (.ref a :: (vs ++ dvs)) (upd H1 a (exo a C none)) (fun v H2 => v = .non ∧ Q (.ref a) H2) (fun _ _ _ => False)) :
    wpAny (model X.prog X.w) X.A (call (.ref C) us) (EP X pins σ Q) X.xe s1 := by
  obtain ⟨c1, c2, c3, c4, bm, c5, c6, c7, c8, c9, k0, k1, k2, k3, k5, hC, hbm⟩ := T.cls
  obtain ⟨hp, g, dr, tk, os⟩ := s1
  have hsz : hp.objs.size ≤ hp.objs.size + 1 := Nat.le_succ _
  have hn : H1 (hp.objs.size + 1) = none := I1.hok.fresh hsz
  have hq := q1 (hp.objs.size + 1) hn
  have kk : ∀ b o, hp.get? b = some o → ((hp.push (PySem.W.kdv_tup us)).push (PySem.HandSPX.excO C hp.objs.size)).get? b = some o := fun b o z => Heap.get?_push_of_some _ (Heap.get?_push_of_some _ z)
  have hget : ((hp.push (PySem.W.kdv_tup us)).push (PySem.HandSPX.excO C hp.objs.size)).get? (hp.objs.size + 1) = some (PySem.HandSPX.excO C hp.objs.size) := by heap_get
  have I2 : Inv X pins σ (upd H1 (hp.objs.size + 1) (exo (hp.objs.size + 1) C none)) ⟨(hp.push (PySem.W.kdv_tup us)).push (PySem.HandSPX.excO C hp.objs.size), g, dr, tk, os⟩ := I1.laid (t' := tk) kk hsz (exo_ok hget)
  have r2 : Vals (V.ref (hp.objs.size + 1) :: (vs ++ dvs)) (Value.ref (hp.objs.size + 1) :: (us ++ ds)) := .cons rfl (r1.append hd)
  have hl : (Value.ref (hp.objs.size + 1) :: us ++ ds).length = ps.length := by
    have z := r2.length
    rw [F1.len _ _ _ _ hq] at z
    exact z.symm
  have hus : us.length ≤ sizeLine := by
    rw [← Paired.length r1, sizeLine_eq]
    omega
  refine wpAny_call (PySem.HandSPX.call_own F.excBase_ValueError (fun Y => PySem.HandSPX.refsVE_contains Y bm hbm) (I1.kIn _ _ hC) (PySem.W.looks_findIn I1.kIn iC) (fun self => PySem.W.bind_fn I1.kIn self tI) hus
    (codeAny_mono (F1.run _ X.stack _ _ ⟨Value.ref (hp.objs.size + 1) :: us, []⟩ (Value.ref (hp.objs.size + 1) :: (us ++ ds)) _ _ (fun _ _ _ => False) (hr.make C us []) (I2.env0.make C us []) (hb _ (Value.ref (hp.objs.size + 1) :: us) I2.kIn hl) r2 hq) fun r s' hq' => ?_))
  cases r with
  | error er => exact hx pins σ _ _ er s' I2 hq'
  | ok fl =>
    cases fl with
    | ret u =>
      obtain ⟨v, H2, os2, bare2, un2, hok2, rv, ev, q2⟩ := hq'
      subst ev
      have nha : ∀ {b : Addr} {o : Obj}, hp.get? b = some o → b ≠ hp.objs.size + 1 := fun {b o} z => Nat.ne_of_lt (Nat.lt_succ_of_lt (Heap.lt_size z))
      have up : ∀ {b : Addr}, b ≠ hp.objs.size + 1 → H1 b = none → upd H1 (hp.objs.size + 1) (exo (hp.objs.size + 1) C none) b = none := fun {b} hb' n => by rw [upd_ne hb']; exact n
      have U : Un (frs X.stack) [] H1 H2 hp s'.heap := {
        keep := fun b o z n hf hx' => un2.keep b o (kk b o z) (up (nha z) n) hf hx'
        slot := fun b o z n hf hx' => un2.slot b o (kk b o z) (up (nha z) n) hf hx'
        free := fun b o z n hx' => un2.free b o (kk b o z) (up (nha z) n) hx'
        there := fun b o z hx' => un2.there b o (kk b o z) hx'
        tups := fun b xs z => un2.tups b xs (by rw [upd_ne (ne_of_none z hn)]; exact z)
        frzs := fun b o u z => un2.frzs b o u (by rw [upd_ne (ne_of_none z hn)]; exact z)
        tbls := fun b ps z => un2.tbls b ps (by rw [upd_ne (ne_of_none z hn)]; exact z) }
      exact ⟨rv, .ref (hp.objs.size + 1), H2, I1.call' (ch := []) os2 U hok2 bare2 (fun b z => absurd z (by simp)), rfl, q2⟩
    | next => exact False.elim hq'
    | brk => exact False.elim hq'
    | cont => exact False.elim hq'
theorem pe_excV0 {CX : CXT} {x : Str} {C fI : Addr} {k : Nat} {fd : FuncData} {ps : List Str} {sp : Sp} {ds : List Value} {dvs : List V} (T : OexC X.K C) (iC : PySem.W.findIn X.K (.ref C) "__init__" = some (some (.ref fI))) (tI : PySem.W.typeIn X.K (.ref fI) = some (.type "function"))
    (F1 : FnOk X.prog X.w X.K X.mg X.base CX k fI fd ps sp) (hr : Room (k + 1) X.A) (hb : Binds X.K fd ps ds) (hd : Vals dvs ds) (hx : Passes CX X (fun _ _ _ => False)) (hg : Gl X x) (hm : X.mg x = some (.ref C))
    (hdb : (x == ("__debug__" : Str)) = false := by decide) : PE X (.Call (.Name x p) [] [] pos) (tMkV C sp dvs tNil) := by
  refine ⟨fun pins s σ H Q I h => ?_⟩
  refine wpAny_Call_Name_kw (ld_glob I hg hm ?_ hdb)
  exact PySem.W.callWith_K0 I.kIn T.kC (run_excV T iC tI F1 hr hb hd hx I .nil h.1 h.2)
theorem pe_excV {CX : CXT} {x : Str} {C fI : Addr} {k : Nat} {fd : FuncData} {ps : List Str} {sp : Sp} {ds : List Value} {dvs : List V} (T : OexC X.K C) (iC : PySem.W.findIn X.K (.ref C) "__init__" = some (some (.ref fI))) (tI : PySem.W.typeIn X.K (.ref fI) = some (.type "function"))
    (F1 : FnOk X.prog X.w X.K X.mg X.base CX k fI fd ps sp) (hr : Room (k + 1) X.A) (hb : Binds X.K fd ps ds) (hd : Vals dvs ds) (hx : Passes CX X (fun _ _ _ => False)) (hg : Gl X x) (hm : X.mg x = some (.ref C)) (ha : PA X (e :: es) ta)
    (hdb : (x == ("__debug__" : Str)) = false := by decide) (he : starEach (e :: es) X.env = (false, eval e X.env) :: starEach es X.env := by rfl) (hpl : (backTo pos (starEach es X.env)).any (·.1) = false := by rfl) : PE X (.Call (.Name x p) (e :: es) [] pos) (tMkV C sp dvs ta) := by
  refine ⟨fun pins s σ H Q I h => ?_⟩
  refine wpAny_Call_Name_kw (ld_glob I hg hm ?_ hdb)
  exact PySem.W.callWith_K (h₀ := X.base) I.ok.mod.kin T.kC (thn (ha.run pos pins s σ H _ I h) fun us s1 ⟨vs, H1, I1, r1, hz, q1⟩ => ⟨I1.kIn, run_excV T iC tI F1 hr hb hd hx I1 r1 hz q1⟩) he hpl
end
/-- the kind of a value; "exc": an exception -/
def kn (K : PySem.W.Frag) (H : Hp) (x : V) (n : String) : Prop := vty x H = some n ∨ (n = "exc" ∧ ∃ (a C d : Addr) (fs : List (Str × V)), x = .ref a ∧ H a = some (exo a C (some d)) ∧ H d = some (exd d fs) ∧ ExcK K C)
theorem isa_exc {c : String} (h : Kc c = true) : isaB "exc" c = false := by
  have q : ∀ n ∈ ["bool", "int", "str", "list", "tuple"], isaB "exc" n = false := by decide +kernel
  exact q c (of_decide_eq_true h)
def rIsiG (K : PySem.W.Frag) : List V → Hp → VK → Prop := fun xs H Q => ∃ (x : V) (c : String), xs = [x, .ty c] ∧ Kc c = true ∧ ∃ n, kn K H x n ∧ Q (.bl (isaB n c)) H
theorem call_isiG {X : Cx} : CallR X (.builtin "isinstance") (rIsiG X.K) := fun pins s σ H xs us Q I r h => by
  obtain ⟨x, c, rfl, hc, n, hn, q⟩ := h
  rcases hn with hn | ⟨rfl, a, C, d, fs, rfl, ha, hd, hC⟩
  · exact call_isiF pins s σ H _ us Q I r ⟨x, c, rfl, hc, n, hn, q⟩
  · cases r with
    | cons rx rr =>
      cases rr with
      | cons rt rr =>
        cases rr
        cases rx
        cases rt
        rw [isa_exc hc] at q
        obtain ⟨t1, ho⟩ := exo_at I.hok ha
        have hcl : (PySem.W.clsIn X.K C).isSome = true := by
          obtain ⟨c1, c2, c3, c4, bm, c5, c6, c7, c8, c9, k0, k1, k2, k3, k5, z, _⟩ := hC.oe.cls
          unfold PySem.W.clsIn
          rw [z]
          rfl
        obtain ⟨mA, ⟨od, es, ep, hod, _⟩, _⟩ := exd_at I.hok hd
        have J : PySem.W.InstAt s.heap a _ C (some od) := ⟨ho, rfl, rfl, hod⟩
        exact PySem.W.kia_one (PySem.W.kitx_exc hcl hC.ex.hg hC.ex.hk hC.ex.hs hC.ex.ha hC.ex.hn hC.ex.ht hC.ex.hm) I.kIn J (hC.kb c hc) (fun z => nomatch z) fun tk => ⟨.bl false, H, I.kept (t' := tk) fun _ _ z => z, rfl, q⟩
theorem kn_non {K : PySem.W.Frag} {H : Hp} {n : String} : kn K H .non n ↔ n = "NoneType" := by
  constructor
  · intro h
    rcases h with h | ⟨_, a, C, d, fs, z, _⟩
    · exact (Option.some.inj h).symm
    · cases z
  · intro h
    rw [h]
    exact Or.inl rfl
theorem kn_bl {K : PySem.W.Frag} {H : Hp} {n : String} {b : Bool} : kn K H (.bl b) n ↔ n = "bool" := by
  constructor
  · intro h
    rcases h with h | ⟨_, a, C, d, fs, z, _⟩
    · exact (Option.some.inj h).symm
    · cases z
  · intro h
    rw [h]
    exact Or.inl rfl
theorem kn_int {K : PySem.W.Frag} {H : Hp} {n : String} {b : Int} : kn K H (.int b) n ↔ n = "int" := by
  constructor
  · intro h
    rcases h with h | ⟨_, a, C, d, fs, z, _⟩
    · exact (Option.some.inj h).symm
    · cases z
  · intro h
    rw [h]
    exact Or.inl rfl
theorem kn_str {K : PySem.W.Frag} {H : Hp} {n : String} {b : Str} : kn K H (.str b) n ↔ n = "str" := by
  constructor
  · intro h
    rcases h with h | ⟨_, a, C, d, fs, z, _⟩
    · exact (Option.some.inj h).symm
    · cases z
  · intro h
    rw [h]
    exact Or.inl rfl
theorem kn_ref {K : PySem.W.Frag} {H : Hp} {n : String} {a : Addr} (h : kn K H (.ref a) n) : isaB n "int" = false ∧ isaB n "bool" = false ∧ isaB n "str" = false := by
  rcases h with h | ⟨rfl, _⟩
  · unfold vty at h
    dsimp only at h
    split at h
    · cases h; exact ⟨isa_list_int, isa_list_bool, isa_list_str⟩
    · cases h; exact ⟨isa_tuple_int, isa_tuple_bool, isa_tuple_str⟩
    · cases h; exact ⟨isa_dict_int, isa_dict_bool, isa_dict_str⟩
    · cases h
  · exact ⟨isa_exc (by decide), isa_exc (by decide), isa_exc (by decide)⟩
/-- a tuple is known by its kind -/
theorem kn_tup {K : PySem.W.Frag} {H : Hp} {n : String} {a : Addr} (h : kn K H (.ref a) n) : (∃ xs, H a = some (.tup xs) ∧ isaB n "tuple" = true) ∨ ((∀ xs, H a ≠ some (.tup xs)) ∧ isaB n "tuple" = false) := by
  rcases h with h | ⟨rfl, b, C, d, fs, e, hb, _⟩
  · unfold vty at h
    dsimp only at h
    split at h
    · rename_i xs e; cases h; exact .inr ⟨fun ys z => (by rw [e] at z; cases z), isa_list_tuple⟩
    · rename_i xs e; cases h; exact .inl ⟨xs, e, isa_tuple_tuple⟩
    · rename_i xs e; cases h; exact .inr ⟨fun ys z => (by rw [e] at z; cases z), isa_dict_tuple⟩
    · cases h
  · cases e
    exact .inr ⟨fun ys z => exo_tup (Option.some.inj (hb.symm.trans z)), isa_exc (by decide)⟩
theorem kn_odd {K : PySem.W.Frag} {H : Hp} {n : String} {x : V} (h : kn K H x n) : x = .non ∨ (∃ b, x = .bl b) ∨ (∃ i, x = .int i) ∨ (∃ z, x = .str z) ∨ ∃ a, x = .ref a := by
  cases x with
  | non => exact .inl rfl
  | bl b => exact .inr (.inl ⟨b, rfl⟩)
  | int i => exact .inr (.inr (.inl ⟨i, rfl⟩))
  | str z => exact .inr (.inr (.inr (.inl ⟨z, rfl⟩)))
  | ref a => exact .inr (.inr (.inr (.inr ⟨a, rfl⟩)))
  | _ =>
    rcases h with h | ⟨_, a, C, d, fs, z, _⟩
    · cases h
    · cases z
/-! ### tuples put together and cut: the answer is some tuple -/
def rCatU : R2 := fun x y H Q => ∃ a b xs ys, x = .ref a ∧ y = .ref b ∧ H a = some (.tup xs) ∧ H b = some (.tup ys) ∧ xs.length + ys.length ≤ 100000 ∧ ∀ p H', Same H H' → H' p = some (.tup (xs ++ ys)) → Q (.ref p) H'
theorem op_catU {X : Cx} : OpR X (binaryOp .Add) rCatU := fun pins s σ H x y v u Q I rx ry h => by
  obtain ⟨a, b, xs, ys, rfl, rfl, ha, hb, hz, q⟩ := h
  refine op_catA pins s σ H _ _ v u Q I rx ry ⟨a, b, xs, ys, rfl, rfl, .inl (.inl ha), .inl (.inl hb), Nat.le_trans hz (by decide), fun e => q _ _ (Same.refl _) (by rw [e]; exact hb), fun _ e => q _ _ (Same.refl _) (by rw [e, List.append_nil]; exact ha), fun _ _ p hp => q _ _ (same_upd hp) upd_same⟩
def rTupU : List V → Hp → VK → Prop := fun vs H Q => ∃ a xs, vs = [.ref a] ∧ (H a = some (.lst xs) ∨ H a = some (.tup xs)) ∧ ∀ p H', Same H H' → H' p = some (.tup xs) → Q (.ref p) H'
theorem call_tuple_ofU {X : Cx} : CallR X (.type "tuple") rTupU := fun pins s σ H vs us Q I r h => by
  obtain ⟨a, xs, rfl, ha, q⟩ := h
  refine call_tuple_of pins s σ H _ us Q I r ⟨a, xs, rfl, ?_⟩
  rcases ha with ha | ha
  · exact .inl ⟨.inl (.inl ha), fun p hp => q _ _ (same_upd hp) upd_same⟩
  · exact .inr ⟨.inl (.inl ha), q _ _ (Same.refl _) ha⟩
def rSlU : V → Option Int → Option Int → Hp → VK → Prop := fun x lo hi H Q => ∃ a xs, x = .ref a ∧ H a = some (.tup xs) ∧ ∀ p H', Same H H' → H' p = some (.tup (cutV xs lo hi)) → Q (.ref p) H'
theorem sl_tupU {X : Cx} : SlR X rSlU := fun pins s σ H x v vl vu lo hi sl Q I rx hs pl pu h => by
  obtain ⟨a, xs, rfl, ha, q⟩ := h
  refine sl_tupA pins s σ H _ v vl vu lo hi sl Q I rx hs pl pu ⟨a, xs, rfl, .inl (.inl ha), fun e => q _ _ (Same.refl _) ?_, fun _ p hp => q _ _ (same_upd hp) upd_same⟩
  have z : cutV xs lo hi = xs := by
    unfold cutV
    rw [e.1, e.2, List.drop_zero, Nat.sub_zero, List.take_length]
  rw [z]
  exact ha
end Kx

set_option Elab.async false
set_option linter.all false
set_option maxRecDepth 100000
set_option maxHeartbeats 4000000
namespace Kx
open PySem PySem.Spec PyProof.Rows L2
local macro_rules | `(tactic| walk_at "wp") => `(tactic| simp only [tSeq, tAsg, tC, tVar, tOp, tUn, rI, rI0, rU, tCB, tCons, tNil, tRet, tRetN, tDrop, tLst, tTup, tIf_eq, tIfS_eq, ifk_t, ifk_f, iek_t, iek_f, tTest, tB, tAnd, tOr, tNot, tAndV, tOrV, tNotV, tNext, tSl, rSlL, tPart, tNoPart, gName, gTup, gCons, gNil, gSub, rSetL, tCall, iList, iTup, iRng1, iRng2, rIxL, rIxT, rEq, rNe, scal_ii, scal_bb, scal_ss, scal_nx, scal_xn, RZ.iZipA, rIsiF, rIsiFT, vty_non, vty_bl, vty_int, vty_str, isa_list_list, isa_list_tuple, isa_list_bool, isa_list_int, isa_list_str, isa_tuple_list, isa_tuple_tuple, isa_tuple_bool, isa_tuple_int, isa_tuple_str, isa_dict_list, isa_dict_tuple, isa_dict_bool, isa_dict_int, isa_dict_str, isa_bool_list, isa_bool_tuple, isa_bool_bool, isa_bool_int, isa_bool_str, isa_int_list, isa_int_tuple, isa_int_bool, isa_int_int, isa_int_str, isa_str_list, isa_str_tuple, isa_str_bool, isa_str_int, isa_str_str, isa_non_list, isa_non_tuple, isa_non_bool, isa_non_int, isa_non_str, kc_bool, kc_int, kc_str, kc_list, kc_tuple, upd_same, HO.tup.injEq, HO.lst.injEq, V.ty.injEq, Bool.or_true, Bool.true_or, Bool.or_false, Bool.false_or, sz_0, sz_1, sz_2, sz_3, sz_4, sz_5, sz_6, sz_7, sz_8, sz_9, sz_10, sz_11, sz_12, sz_13, decide_true, decide_false, C8.tCut, tBM, tBM0, rAppend, rTupU, rCatU, rSlU, rRepT, rRep, rCat, rIsiG, kn_non, kn_bl, kn_int, kn_str, tChain, tMkV, exists_eq, tPar, tCallN,  tDisp, tPairs, rSlS, rLenS, rLenV, rListOf, rTupOf, tM0, tM1, iStr, wipe, tYes, tFor_eq, tLc_eq, L2.start, cxOf, Cx.nox, Cx.wish, List.map_cons, List.map_nil, List.length_cons, List.length_nil, List.replicate, List.cons_append, List.nil_append, List.getElem?_cons_zero, List.getElem?_cons_succ, List.set_cons_zero, List.set_cons_succ, Option.some.injEq, and_assoc, exists_and_left, exists_and_right, exists_eq_left', exists_eq_left, exists_eq, exists_eq', true_and, and_true, Nat.reduceSub, Nat.reduceAdd, V.int.injEq, V.ref.injEq, V.bl.injEq, V.str.injEq, List.cons.injEq, decide_eq_true_eq, reduceCtorEq, false_or, or_false, and_false, false_and, exists_false, exists_const, if_true, if_false, Bool.true_eq_false, Bool.false_eq_true, ite_true, ite_false, Bool.not_true, Bool.not_false, decide_eq_false_iff_not, ne_eq])

section
variable {P : Program} {w : World} {K : PySem.W.Frag} {mg : Str → Option Value} {base : Heap}
/-! ### kinds -/
def Ak (K : PySem.W.Frag) (H : Hp) (v : V) : Prop := (∃ n, kn K H v n) ∧ ∀ z, v = .str z → z.length ≤ 10000
/-- a thing that is asked: its kind; of a tuple its items' kinds too -/
def Th (K : PySem.W.Frag) (H : Hp) (v : V) : Prop := Ak K H v ∧ ∀ a xs, v = .ref a → H a = some (.tup xs) → xs.length ≤ 1000 ∧ ∀ x ∈ xs, Ak K H x
def numB (x : V) (lo hi : Int) : Bool := match x with
  | .int i => decide (lo ≤ i ∧ i ≤ hi)
  | _ => false
def isNum (x : V) : Bool := match x with
  | .int _ => true
  | _ => false
def valB (x : V) (k : Int) : Bool := match x with
  | .non => true
  | _ => numB x 0 (k - 1)
def rowB (H : Hp) (x : V) (n k : Int) : Bool := match x with
  | .ref a => (match H a with
    | some (.tup xs) => decide ((xs.length : Int) = n) && xs.all fun v => valB v k
    | _ => false)
  | _ => false
def nameB (x : V) : Bool := match x with
  | .str z => decide (1 ≤ z.length ∧ z.length ≤ 8) && z.cps.toList.all fun c => decide (c ∈ (Str.ofString "abcdefghijklmnopqrstuvwxyz" : Str).cps.toList)
  | _ => false
def sp_is_number (K : PySem.W.Frag) : Sp := fun vs H Q _ => ∃ (x : V) (lo hi : Int), vs = [x, .int lo, .int hi] ∧ Ak K H x ∧ Q (.bl (numB x lo hi)) H
theorem ok_is_number (T : Txt K mg) : FnOk P w K mg base CX0 1 T.is_number.f T.is_number.d ["value", "least", "most"] (sp_is_number K) := by
  refine T.is_number.F.ok sc_is_number (fun vs H Q E h => ?_) (fun cdv A outer s H vs Q E hr h => ?_)
  · obtain ⟨x, lo, hi, rfl, _⟩ := h
    rfl
  obtain ⟨x, lo, hi, rfl, ⟨⟨n, hn⟩, _⟩, q⟩ := h
  refine ⟨_, (pss_one (ps_ret (pe_and (pe_callB call_isiG (by rfl) T.z_isinstance (by decide +kernel) (pa_cons (pv 0) (pa_cons (pe_tyb "int" (by rfl) T.z_int (by decide +kernel)) pa_nil))) (pe_and (pe_not (pe_callB call_isiG (by rfl) T.z_isinstance (by decide +kernel) (pa_cons (pv 0) (pa_cons (pe_tyb "bool" (by rfl) T.z_bool (by decide +kernel)) pa_nil)))) (pe_one (pe_chain op_le op_le (pv 1) (pv 0) (pv 2))))))), ?_⟩
  walk_at "wp"
  rcases kn_odd hn with rfl | ⟨b, rfl⟩ | ⟨i, rfl⟩ | ⟨z, rfl⟩ | ⟨a, rfl⟩
  · walk_at "wp"
    exact q
  · walk_at "wp"
    exact q
  · walk_at "wp"
    refine ite2 (fun c => ?_) (fun c => ?_)
    · have e : numB (.int i) lo hi = decide (i ≤ hi) := by
        unfold numB
        simp [c]
      rw [← e]
      exact q
    · have e : numB (.int i) lo hi = false := by
        unfold numB
        simp [c]
      rw [← e]
      exact q
  · walk_at "wp"
    exact q
  · obtain ⟨h1, h2, h3⟩ := kn_ref hn
    refine ⟨n, hn, ?_⟩
    rw [h1]
    walk_at "wp"
    exact q
def sp_l_is_number (K : PySem.W.Frag) : Sp := fun vs H Q _ => ∃ (x : V), vs = [x] ∧ Ak K H x ∧ Q (.bl (isNum x)) H
theorem ok_l_is_number (T : Txt K mg) : FnOk P w K mg base CX0 1 T.l_is_number.f T.l_is_number.d ["_law_value_here"] (sp_l_is_number K) := by
  refine T.l_is_number.F.ok sc_l_is_number (fun vs H Q E h => ?_) (fun cdv A outer s H vs Q E hr h => ?_)
  · obtain ⟨x, rfl, _⟩ := h
    rfl
  obtain ⟨x, rfl, ⟨⟨n, hn⟩, _⟩, q⟩ := h
  refine ⟨_, (pss_one (ps_ret (pe_and (pe_callB call_isiG (by rfl) T.z_isinstance (by decide +kernel) (pa_cons (pv 0) (pa_cons (pe_tyb "int" (by rfl) T.z_int (by decide +kernel)) pa_nil))) (pe_one (pe_not (pe_callB call_isiG (by rfl) T.z_isinstance (by decide +kernel) (pa_cons (pv 0) (pa_cons (pe_tyb "bool" (by rfl) T.z_bool (by decide +kernel)) pa_nil)))))))), ?_⟩
  walk_at "wp"
  rcases kn_odd hn with rfl | ⟨b, rfl⟩ | ⟨i, rfl⟩ | ⟨z, rfl⟩ | ⟨a, rfl⟩
  · walk_at "wp"
    exact q
  · walk_at "wp"
    exact q
  · walk_at "wp"
    exact q
  · walk_at "wp"
    exact q
  · obtain ⟨h1, h2, h3⟩ := kn_ref hn
    refine ⟨n, hn, ?_⟩
    rw [h1]
    walk_at "wp"
    exact q
/-- a sign: of the program, of the law -/
def sp_is_sign (K : PySem.W.Frag) : Sp := fun vs H Q _ => ∃ (x : V) (k : Int), vs = [x, .int k] ∧ Ak K H x ∧ Q (.bl (numB x 0 (k - 1))) H
def sp_is_value (K : PySem.W.Frag) : Sp := fun vs H Q _ => ∃ (x : V) (k : Int), vs = [x, .int k] ∧ Ak K H x ∧ Q (.bl (valB x k)) H
theorem ok_is_sign (T : Txt K mg) : FnOk P w K mg base CX0 2 T.is_sign.f T.is_sign.d ["value", "signs"] (sp_is_sign K) := by
  have G_is_number : FnOk P w K mg base CX0 1 T.is_number.f T.is_number.d ["value", "least", "most"] (sp_is_number K) := ok_is_number T
  refine T.is_sign.F.ok sc_is_sign (fun vs H Q E h => ?_) (fun cdv A outer s H vs Q E hr h => ?_)
  · obtain ⟨x, k, rfl, _⟩ := h
    rfl
  obtain ⟨x, k, rfl, hx, q⟩ := h
  refine ⟨_, (pss_one (ps_ret (pe_call G_is_number (hr.mono (by omega)) (by rfl) T.is_number.g T.is_number.kp T.is_number.b .nil pass0 (pa_cons (pv 0) (pa_cons pe_int (pa_cons (pe_op op_sub (pv 1) pe_int) pa_nil)))))), ?_⟩
  walk_at "wp"
  exact ⟨x, 0, k - 1, rfl, hx, q⟩
theorem ok_l_is_sign (T : Txt K mg) : FnOk P w K mg base CX0 2 T.l_is_sign.f T.l_is_sign.d ["_law_value_here", "_law_base"] (sp_is_sign K) := by
  have G_l_is_number : FnOk P w K mg base CX0 1 T.l_is_number.f T.l_is_number.d ["_law_value_here"] (sp_l_is_number K) := ok_l_is_number T
  refine T.l_is_sign.F.ok sc_l_is_sign (fun vs H Q E h => ?_) (fun cdv A outer s H vs Q E hr h => ?_)
  · obtain ⟨x, k, rfl, _⟩ := h
    rfl
  obtain ⟨x, k, rfl, hx, q⟩ := h
  refine ⟨_, (pss_one (ps_ret (pe_and (pe_call G_l_is_number (hr.mono (by omega)) (by rfl) T.l_is_number.g T.l_is_number.kp T.l_is_number.b .nil pass0 (pa_cons (pv 0) pa_nil)) (pe_one (pe_chain op_le op_lt pe_int (pv 0) (pv 1)))))), ?_⟩
  walk_at "wp"
  refine ⟨x, rfl, hx, ?_⟩
  walk_at "wp"
  cases x with
  | int i =>
    unfold isNum
    walk_at "wp"
    have e : numB (.int i) 0 (k - 1) = (decide (0 ≤ i) && decide (i < k)) := by
      unfold numB
      rw [Bool.eq_iff_iff]
      simp only [decide_eq_true_eq, Bool.and_eq_true]
      omega
    rw [e] at q
    refine ite2 (fun c => ?_) (fun c => ?_)
    · rw [decide_eq_true c, Bool.true_and] at q
      exact q
    · rw [decide_eq_false c, Bool.false_and] at q
      exact q
  | _ =>
    unfold isNum
    walk_at "wp"
    exact q
theorem ok_is_value (T : Txt K mg) : FnOk P w K mg base CX0 3 T.is_value.f T.is_value.d ["value", "signs"] (sp_is_value K) := by
  have G_is_sign : FnOk P w K mg base CX0 2 T.is_sign.f T.is_sign.d ["value", "signs"] (sp_is_sign K) := ok_is_sign T
  refine T.is_value.F.ok sc_is_value (fun vs H Q E h => ?_) (fun cdv A outer s H vs Q E hr h => ?_)
  · obtain ⟨x, k, rfl, _⟩ := h
    rfl
  obtain ⟨x, k, rfl, hx, q⟩ := h
  refine ⟨_, (pss_one (ps_ret (pe_or (pe_cmpR op_isN (pv 0) pe_non (nomark _)) (pe_one (pe_call G_is_sign (hr.mono (by omega)) (by rfl) T.is_sign.g T.is_sign.kp T.is_sign.b .nil pass0 (pa_cons (pv 0) (pa_cons (pv 1) pa_nil))))))), ?_⟩
  walk_at "wp"
  by_cases c : x = .non
  · subst c
    walk_at "wp"
    exact q
  · rw [if_neg c]
    refine ⟨x, k, rfl, hx, ?_⟩
    have e : valB x k = numB x 0 (k - 1) := by
      unfold valB
      split
      · exact absurd rfl c
      · rfl
    rw [← e]
    exact q
theorem ok_l_is_value (T : Txt K mg) : FnOk P w K mg base CX0 3 T.l_is_value.f T.l_is_value.d ["_law_value_here", "_law_base"] (sp_is_value K) := by
  have G_l_is_sign : FnOk P w K mg base CX0 2 T.l_is_sign.f T.l_is_sign.d ["_law_value_here", "_law_base"] (sp_is_sign K) := ok_l_is_sign T
  refine T.l_is_value.F.ok sc_l_is_value (fun vs H Q E h => ?_) (fun cdv A outer s H vs Q E hr h => ?_)
  · obtain ⟨x, k, rfl, _⟩ := h
    rfl
  obtain ⟨x, k, rfl, hx, q⟩ := h
  refine ⟨_, (pss_one (ps_ret (pe_or (pe_cmpR op_isN (pv 0) pe_non (nomark _)) (pe_one (pe_call G_l_is_sign (hr.mono (by omega)) (by rfl) T.l_is_sign.g T.l_is_sign.kp T.l_is_sign.b .nil pass0 (pa_cons (pv 0) (pa_cons (pv 1) pa_nil))))))), ?_⟩
  walk_at "wp"
  by_cases c : x = .non
  · subst c
    walk_at "wp"
    exact q
  · rw [if_neg c]
    refine ⟨x, k, rfl, hx, ?_⟩
    have e : valB x k = numB x 0 (k - 1) := by
      unfold valB
      split
      · exact absurd rfl c
      · rfl
    rw [← e]
    exact q
theorem map_of_at {α : Type} {f : α → V} {r : List α} {ys : List V} (hl : ys.length = r.length) (h : ∀ (i : Nat) (y : V), ys[i]? = some y → ∃ o, r[i]? = some o ∧ y = f o) : ys = r.map f := by
  refine List.ext_getElem? fun i => ?_
  rw [List.getElem?_map]
  by_cases hi : i < ys.length
  · obtain ⟨o, e1, e2⟩ := h i ys[i] (List.getElem?_eq_getElem hi)
    rw [e1, List.getElem?_eq_getElem hi, e2]
    rfl
  · rw [List.getElem?_eq_none (by omega), List.getElem?_eq_none (by omega)]
    rfl
/-- all(..) of a list of bools that was made item by item -/
theorem all_of {α : Type} {f : α → Bool} {r : List α} {ys : List V} {D : Addr} {H : Hp} {Q : VK} (hy : H D = some (.lst ys)) (hl : ys.length = r.length) (h : ∀ (i : Nat) (y : V), ys[i]? = some y → ∃ o, r[i]? = some o ∧ y = .bl (f o)) (q : Q (.bl (r.all f)) H) : rAll K [.ref D] H Q := by
  have e1 : ys = r.map fun o => V.bl (f o) := map_of_at hl h
  have e2 : ys = (r.map f).map V.bl := by rw [e1, List.map_map]; rfl
  refine ⟨D, r.map f, rfl, .inl (.inl (by rw [← e2]; exact hy)), ?_⟩
  have e3 : (r.map f).all id = r.all f := by rw [List.all_map]; rfl
  rw [e3]
  exact q
theorem row_comp {Q : VK} {xs : List V} {a : Addr} {H1 : Hp} {n k : Int} {x : V} (ha : H1 a = some (.tup xs)) (hl : xs.length ≤ 1000) (hx : ∀ x ∈ xs, Ak K H1 x) (hAk : ∀ H2 x, Same H1 H2 → Ak K H1 x → Ak K H2 x) (q : ∀ H', Same H1 H' → Q (.bl (xs.all fun v => valB v k)) H') :
    LcJ (gName 3) tYes (tCall (sp_is_value K) [] E0 (tCons (tVar 3) (tCons (tVar 2) tNil))) [3] [some x, some (V.int n), some (V.int k), none] (fun x H1 => rAll K [x] H1 Q) (Itt K a) H1 := by
  refine lcS (walk_tup (xs := xs)) (fun i y => ∃ o, xs[i]? = some o ∧ y = .bl (valB o k)) (fun H s => .inl (.inl (s _ _ ha))) (by omega) (fun i v H H' R hi s1 hy c => ?_) (fun D H zs hD s1 hz hl2 hall => ?_)
  · obtain ⟨rfl, hv⟩ := hy
    walk_at "wp"
    exact ⟨v, k, rfl, hAk _ _ s1 (hx v (List.mem_of_getElem? hv)), c _ _ (Same.refl _) ⟨v, hv, rfl⟩⟩
  · exact all_of hz hl2 hall (q _ s1)
theorem Ak.same {H H' : Hp} {x : V} (e : Same H H') (h : Ak K H x) : Ak K H' x := by
  obtain ⟨⟨n, hn⟩, hz⟩ := h
  refine ⟨⟨n, ?_⟩, hz⟩
  rcases hn with hn | ⟨rfl, a, C, d, fs, rfl, ha, hd, hC⟩
  · exact .inl (vty_same hn e)
  · exact .inr ⟨rfl, a, C, d, fs, rfl, e _ _ ha, e _ _ hd, hC⟩
def sp_is_row (K : PySem.W.Frag) : Sp := fun vs H Q _ => ∃ (x : V) (n k : Int), vs = [x, .int n, .int k] ∧ Th K H x ∧ ∀ H', Same H H' → Q (.bl (rowB H x n k)) H'
theorem rowB_ref {H : Hp} {a : Addr} {xs : List V} {n k : Int} (h : H a = some (.tup xs)) : rowB H (.ref a) n k = (decide ((xs.length : Int) = n) && xs.all fun v => valB v k) := by
  unfold rowB
  simp only [h]
theorem rowB_no {H : Hp} {x : V} {n k : Int} (h : ∀ a xs, x = .ref a → H a ≠ some (.tup xs)) : rowB H x n k = false := by
  unfold rowB
  split
  · rename_i a
    split
    · rename_i xs e
      exact absurd e (h a xs rfl)
    · rfl
  · rfl
theorem ok_is_row (T : Txt K mg) : FnOk P w K mg base CX0 4 T.is_row.f T.is_row.d ["value", "inputs", "signs"] (sp_is_row K) := by
  have G_is_value : FnOk P w K mg base CX0 3 T.is_value.f T.is_value.d ["value", "signs"] (sp_is_value K) := ok_is_value T
  refine T.is_row.F.ok sc_is_row (fun vs H Q E h => ?_) (fun cdv A outer s H vs Q E hr h => ?_)
  · obtain ⟨x, n, k, rfl, _⟩ := h
    rfl
  obtain ⟨x, n, k, rfl, ⟨⟨⟨m, hm⟩, _⟩, ht⟩, q⟩ := h
  refine ⟨_, (pss_cons (ps_if (PW.pt (pw_or (pt_not (pt_val (pe_callB call_isiG (by rfl) T.z_isinstance (by decide +kernel) (pa_cons (pv 0) (pa_cons (pe_tyb "tuple" (by rfl) T.z_tuple (by decide +kernel)) pa_nil))))) (pw_or1 (pt_cmpR op_ne (pe_callB call_len_seq (by rfl) T.z_len PySem.boot_len (pa_cons (pv 0) pa_nil)) (pv 1) (nomark _)))))
      (pss_one (ps_ret pe_bl))
      pss_nil)
      (pss_one (ps_ret (pe_callB (cr_all rfl) (by rfl) T.z_all (by decide +kernel) (pa_cons (pe_lc (own := [("item", 3)]) (g := gName 3) rfl sc_is_row.nd (pi_tup (pv 0)) (blkOk_by (own := [("item", 3)]) (N := ["value", "inputs", "signs", "item"]) (sc := defScope s_is_row) (by decide +kernel)) (fun _ _ _ _ _ => (pg_name (i := 3) sc_is_row.nd rfl (.inl rfl))) (fun _ _ _ _ _ => pts_nil) (fun _ _ _ _ _ => (pe_call G_is_value (hr.mono (by omega)) (by rfl) T.is_value.g T.is_value.kp T.is_value.b .nil pass0 (pa_cons (pv 3) (pa_cons (pv 2) pa_nil))))) pa_nil))))), ?_⟩
  walk_at "wp"
  refine ⟨m, hm, ?_⟩
  rcases kn_odd hm with rfl | ⟨b, rfl⟩ | ⟨i, rfl⟩ | ⟨z, rfl⟩ | ⟨a, rfl⟩
  · rw [kn_non] at hm; subst hm; walk_at "wp"; exact q _ (Same.refl _)
  · rw [kn_bl] at hm; subst hm; walk_at "wp"; exact q _ (Same.refl _)
  · rw [kn_int] at hm; subst hm; walk_at "wp"; exact q _ (Same.refl _)
  · rw [kn_str] at hm; subst hm; walk_at "wp"; exact q _ (Same.refl _)
  rcases kn_tup hm with ⟨xs, ha, e⟩ | ⟨no, e⟩
  · rw [e]
    obtain ⟨hl, hx⟩ := ht a xs rfl ha
    have q1 := fun H' s => rowB_ref (n := n) (k := k) ha ▸ q H' s
    walk_at "wp"
    refine ⟨xs, .inr (.inl (.inl ha)), ifkb (fun c => ?_) (fun c => ?_)⟩
    · walk_at "wp"
      have c1 : ¬ (xs.length : Int) = n := by simpa using c
      have q2 := q1 _ (Same.refl _)
      rw [decide_eq_false c1, Bool.false_and] at q2
      exact q2
    · walk_at "wp"
      have c1 : (xs.length : Int) = n := by simpa using c
      refine ⟨⟨_, .inl (.inl ha)⟩, row_comp ha hl hx (fun _ _ s h => h.same s) fun H' s => ?_⟩
      have q2 := q1 _ s
      rw [decide_eq_true c1, Bool.true_and] at q2
      exact q2
  · rw [e]
    have q1 := q _ (Same.refl _)
    rw [rowB_no (fun b xs z => by cases z; exact no xs)] at q1
    walk_at "wp"
    exact q1
theorem ok_l_is_row (T : Txt K mg) : FnOk P w K mg base CX0 4 T.l_is_row.f T.l_is_row.d ["_law_value_here", "_law_n", "_law_base"] (sp_is_row K) := by
  have G_l_is_value : FnOk P w K mg base CX0 3 T.l_is_value.f T.l_is_value.d ["_law_value_here", "_law_base"] (sp_is_value K) := ok_l_is_value T
  refine T.l_is_row.F.ok sc_l_is_row (fun vs H Q E h => ?_) (fun cdv A outer s H vs Q E hr h => ?_)
  · obtain ⟨x, n, k, rfl, _⟩ := h
    rfl
  obtain ⟨x, n, k, rfl, ⟨⟨⟨m, hm⟩, _⟩, ht⟩, q⟩ := h
  refine ⟨_, (pss_one (ps_ret (pe_and (pe_callB call_isiG (by rfl) T.z_isinstance (by decide +kernel) (pa_cons (pv 0) (pa_cons (pe_tyb "tuple" (by rfl) T.z_tuple (by decide +kernel)) pa_nil))) (pe_and (pe_cmpR op_eq (pe_callB call_len_seq (by rfl) T.z_len PySem.boot_len (pa_cons (pv 0) pa_nil)) (pv 1) (nomark _)) (pe_one (pe_callB (cr_all rfl) (by rfl) T.z_all (by decide +kernel) (pa_cons (pe_lc (own := [("_law_v", 3)]) (g := gName 3) rfl sc_l_is_row.nd (pi_tup (pv 0)) (blkOk_by (own := [("_law_v", 3)]) (N := ["_law_value_here", "_law_n", "_law_base", "_law_v"]) (sc := defScope s_l_is_row) (by decide +kernel)) (fun _ _ _ _ _ => (pg_name (i := 3) sc_l_is_row.nd rfl (.inl rfl))) (fun _ _ _ _ _ => pts_nil) (fun _ _ _ _ _ => (pe_call G_l_is_value (hr.mono (by omega)) (by rfl) T.l_is_value.g T.l_is_value.kp T.l_is_value.b .nil pass0 (pa_cons (pv 3) (pa_cons (pv 2) pa_nil))))) pa_nil))))))), ?_⟩
  walk_at "wp"
  refine ⟨m, hm, ?_⟩
  rcases kn_odd hm with rfl | ⟨b, rfl⟩ | ⟨i, rfl⟩ | ⟨z, rfl⟩ | ⟨a, rfl⟩
  · rw [kn_non] at hm; subst hm; walk_at "wp"; exact q _ (Same.refl _)
  · rw [kn_bl] at hm; subst hm; walk_at "wp"; exact q _ (Same.refl _)
  · rw [kn_int] at hm; subst hm; walk_at "wp"; exact q _ (Same.refl _)
  · rw [kn_str] at hm; subst hm; walk_at "wp"; exact q _ (Same.refl _)
  rcases kn_tup hm with ⟨xs, ha, e⟩ | ⟨no, e⟩
  · rw [e]
    obtain ⟨hl, hx⟩ := ht a xs rfl ha
    have q1 := fun H' s => rowB_ref (n := n) (k := k) ha ▸ q H' s
    walk_at "wp"
    refine ⟨xs, .inr (.inl (.inl ha)), ite2 (fun c1 => ?_) (fun c1 => ?_)⟩
    · refine ⟨⟨_, .inl (.inl ha)⟩, row_comp ha hl hx (fun _ _ s h => h.same s) fun H' s => ?_⟩
      have q2 := q1 _ s
      rw [decide_eq_true c1, Bool.true_and] at q2
      exact q2
    · have q2 := q1 _ (Same.refl _)
      rw [decide_eq_false c1, Bool.false_and] at q2
      exact q2
  · rw [e]
    have q1 := q _ (Same.refl _)
    rw [rowB_no (fun b xs z => by cases z; exact no xs)] at q1
    walk_at "wp"
    exact q1
theorem name_comp {Q : VK} {z : Str} {H1 : Hp} {x : V} (hl : z.length ≤ 10000) (q : ∀ H', Same H1 H' → Q (.bl (z.cps.toList.all fun c => decide (c ∈ (Str.ofString "abcdefghijklmnopqrstuvwxyz" : Str).cps.toList))) H') :
    LcJ (gName 1) tYes (tOp (fun x y H Q => ∃ c, x = V.str { cps := #[c] } ∧ ∃ x, y = V.str x ∧ Q (V.bl (decide (c ∈ x.cps.toList))) H) (tVar 1) (tC (V.str (Str.ofString "abcdefghijklmnopqrstuvwxyz")))) [1] [some x, none] (fun x H1 => rAll K [x] H1 Q) (Its z) H1 := by
  have hzs : z.cps.size = z.cps.toList.length := by rw [Array.length_toList]
  have hzl : z.cps.size ≤ 10000 := hl
  refine lcS (walk_str (z := z)) (fun i y => ∃ c, z.cps.toList[i]? = some c ∧ y = .bl (decide (c ∈ (Str.ofString "abcdefghijklmnopqrstuvwxyz" : Str).cps.toList))) (fun _ _ => trivial) (by omega) (fun i v H H' R hi s1 hy cc => ?_) (fun D H zs hD s1 hz hl2 hall => ?_)
  · obtain ⟨rfl, c, hc, rfl⟩ := hy
    walk_at "wp"
    exact ⟨c, rfl, cc _ _ (Same.refl _) ⟨c, by rw [Array.getElem?_toList]; exact hc, rfl⟩⟩
  · exact all_of hz (by rw [hl2, hzs]) hall (q _ s1)
def sp_is_name (K : PySem.W.Frag) : Sp := fun vs H Q _ => ∃ (x : V), vs = [x] ∧ Ak K H x ∧ ∀ H', Same H H' → Q (.bl (nameB x)) H'
theorem ok_is_name (T : Txt K mg) : FnOk P w K mg base CX0 1 T.is_name.f T.is_name.d ["value"] (sp_is_name K) := by
  refine T.is_name.F.ok sc_is_name (fun vs H Q E h => ?_) (fun cdv A outer s H vs Q E hr h => ?_)
  · obtain ⟨x, rfl, _⟩ := h
    rfl
  obtain ⟨x, rfl, ⟨⟨m, hm⟩, hz⟩, q⟩ := h
  refine ⟨_, (pss_cons (ps_if (PW.pt (pw_or (pt_not (pt_val (pe_callB call_isiG (by rfl) T.z_isinstance (by decide +kernel) (pa_cons (pv 0) (pa_cons (pe_tyb "str" (by rfl) T.z_str (by decide +kernel)) pa_nil))))) (pw_or1 (pt_not (pt_chain op_le op_le pe_int (pe_callB call_len_str (by rfl) T.z_len PySem.boot_len (pa_cons (pv 0) pa_nil)) (pe_glob rfl T.c_MOST_LETTERS T.r_MOST_LETTERS))))))
      (pss_one (ps_ret pe_bl))
      pss_nil)
      (pss_one (ps_ret (pe_callB (cr_all rfl) (by rfl) T.z_all (by decide +kernel) (pa_cons (pe_lc (own := [("letter", 1)]) (g := gName 1) rfl sc_is_name.nd (pi_str (pv 0)) (blkOk_by (own := [("letter", 1)]) (N := ["value", "letter"]) (sc := defScope s_is_name) (by decide +kernel)) (fun _ _ _ _ _ => (pg_name (i := 1) sc_is_name.nd rfl (.inl rfl))) (fun _ _ _ _ _ => pts_nil) (fun _ _ _ _ _ => (pe_cmpR op_in_sign (pv 1) (pe_glob rfl T.c_LETTERS T.r_LETTERS) rfl))) pa_nil))))), ?_⟩
  walk_at "wp"
  rcases kn_odd hm with rfl | ⟨b, rfl⟩ | ⟨i, rfl⟩ | ⟨z, rfl⟩ | ⟨a, rfl⟩
  · walk_at "wp"; exact q _ (Same.refl _)
  · walk_at "wp"; exact q _ (Same.refl _)
  · walk_at "wp"; exact q _ (Same.refl _)
  · have hz1 := hz z rfl
    have q1 : ∀ H', Same H H' → Q (.bl (decide (1 ≤ z.length ∧ z.length ≤ 8) && z.cps.toList.all fun c => decide (c ∈ (Str.ofString "abcdefghijklmnopqrstuvwxyz" : Str).cps.toList))) H' := q
    walk_at "wp"
    refine ⟨Nat.le_trans hz1 (by decide), ite2 (fun c1 => ?_) (fun c1 => ?_)⟩
    · refine ifkb (fun c2 => ?_) (fun c2 => ?_)
      · have c3 : ¬ (z.length : Int) ≤ 8 := by simpa using c2
        have q2 := q1 _ (Same.refl _)
        rw [decide_eq_false (by omega), Bool.false_and] at q2
        walk_at "wp"
        exact q2
      · have c3 : (z.length : Int) ≤ 8 := by simpa using c2
        walk_at "wp"
        refine name_comp hz1 fun H' s => ?_
        have q2 := q1 _ s
        rw [decide_eq_true (by omega), Bool.true_and] at q2
        exact q2
    · have q2 := q1 _ (Same.refl _)
      rw [decide_eq_false (by omega), Bool.false_and] at q2
      exact q2
  · obtain ⟨h1, h2, h3⟩ := kn_ref hm
    refine ⟨m, hm, ?_⟩
    rw [h3]
    walk_at "wp"
    exact q _ (Same.refl _)
theorem ok_l_is_name (T : Txt K mg) : FnOk P w K mg base CX0 1 T.l_is_name.f T.l_is_name.d ["_law_value_here"] (sp_is_name K) := by
  refine T.l_is_name.F.ok sc_l_is_name (fun vs H Q E h => ?_) (fun cdv A outer s H vs Q E hr h => ?_)
  · obtain ⟨x, rfl, _⟩ := h
    rfl
  obtain ⟨x, rfl, ⟨⟨m, hm⟩, hz⟩, q⟩ := h
  refine ⟨_, (pss_cons (ps_if (pt_not (pt_val (pe_callB call_isiG (by rfl) T.z_isinstance (by decide +kernel) (pa_cons (pv 0) (pa_cons (pe_tyb "str" (by rfl) T.z_str (by decide +kernel)) pa_nil)))))
      (pss_one (ps_ret pe_bl))
      pss_nil)
      (pss_one (ps_ret (pe_and (pe_chain op_le op_le pe_int (pe_callB call_len_str (by rfl) T.z_len PySem.boot_len (pa_cons (pv 0) pa_nil)) pe_int) (pe_one (pe_callB (cr_all rfl) (by rfl) T.z_all (by decide +kernel) (pa_cons (pe_lc (own := [("_law_c", 1)]) (g := gName 1) rfl sc_l_is_name.nd (pi_str (pv 0)) (blkOk_by (own := [("_law_c", 1)]) (N := ["_law_value_here", "_law_c"]) (sc := defScope s_l_is_name) (by decide +kernel)) (fun _ _ _ _ _ => (pg_name (i := 1) sc_l_is_name.nd rfl (.inl rfl))) (fun _ _ _ _ _ => pts_nil) (fun _ _ _ _ _ => (pe_cmpR op_in_sign (pv 1) pe_str rfl))) pa_nil))))))), ?_⟩
  walk_at "wp"
  rcases kn_odd hm with rfl | ⟨b, rfl⟩ | ⟨i, rfl⟩ | ⟨z, rfl⟩ | ⟨a, rfl⟩
  · walk_at "wp"; exact q _ (Same.refl _)
  · walk_at "wp"; exact q _ (Same.refl _)
  · walk_at "wp"; exact q _ (Same.refl _)
  · have hz1 := hz z rfl
    have q1 : ∀ H', Same H H' → Q (.bl (decide (1 ≤ z.length ∧ z.length ≤ 8) && z.cps.toList.all fun c => decide (c ∈ (Str.ofString "abcdefghijklmnopqrstuvwxyz" : Str).cps.toList))) H' := q
    walk_at "wp"
    refine ⟨Nat.le_trans hz1 (by decide), ite2 (fun c1 => ?_) (fun c1 => ?_)⟩
    · refine ite2 (fun c3 => ?_) (fun c3 => ?_)
      · refine name_comp hz1 fun H' s => ?_
        have q2 := q1 _ s
        rw [decide_eq_true (by omega), Bool.true_and] at q2
        exact q2
      · have q2 := q1 _ (Same.refl _)
        rw [decide_eq_false (by omega), Bool.false_and] at q2
        exact q2
    · have q2 := q1 _ (Same.refl _)
      rw [decide_eq_false (by omega), Bool.false_and] at q2
      exact q2
  · obtain ⟨h1, h2, h3⟩ := kn_ref hm
    refine ⟨m, hm, ?_⟩
    rw [h3]
    walk_at "wp"
    exact q _ (Same.refl _)
end
end Kx

set_option Elab.async false
set_option linter.all false
set_option maxRecDepth 100000
set_option maxHeartbeats 4000000
namespace Kx
open PySem PySem.Spec PyProof.Rows L2
local macro_rules | `(tactic| walk_at "wp") => `(tactic| simp only [tSeq, tAsg, tC, tVar, tOp, tUn, rI, rI0, rU, tCB, tCons, tNil, tRet, tRetN, tDrop, tLst, tTup, tIf_eq, tIfS_eq, ifk_t, ifk_f, iek_t, iek_f, tTest, tB, tAnd, tOr, tNot, tAndV, tOrV, tNotV, tNext, tSl, rSlL, tPart, tNoPart, gName, gTup, gCons, gNil, gSub, rSetL, tCall, iList, iTup, iRng1, iRng2, rIxL, rIxT, rEq, rNe, scal_ii, scal_bb, scal_ss, scal_nx, scal_xn, RZ.iZipA, rIsiF, rIsiFT, vty_non, vty_bl, vty_int, vty_str, isa_list_list, isa_list_tuple, isa_list_bool, isa_list_int, isa_list_str, isa_tuple_list, isa_tuple_tuple, isa_tuple_bool, isa_tuple_int, isa_tuple_str, isa_dict_list, isa_dict_tuple, isa_dict_bool, isa_dict_int, isa_dict_str, isa_bool_list, isa_bool_tuple, isa_bool_bool, isa_bool_int, isa_bool_str, isa_int_list, isa_int_tuple, isa_int_bool, isa_int_int, isa_int_str, isa_str_list, isa_str_tuple, isa_str_bool, isa_str_int, isa_str_str, isa_non_list, isa_non_tuple, isa_non_bool, isa_non_int, isa_non_str, kc_bool, kc_int, kc_str, kc_list, kc_tuple, upd_same, HO.tup.injEq, HO.lst.injEq, V.ty.injEq, Bool.or_true, Bool.true_or, Bool.or_false, Bool.false_or, sz_0, sz_1, sz_2, sz_3, sz_4, sz_5, sz_6, sz_7, sz_8, sz_9, sz_10, sz_11, sz_12, sz_13, decide_true, decide_false, C8.tCut, tBM, tBM0, rAppend, rTupU, rCatU, rSlU, rRepT, rRep, rCat, rIsiG, kn_non, kn_bl, kn_int, kn_str, tChain, tMkV, exists_eq, tPar, tCallN,  tDisp, tPairs, rSlS, rLenS, rLenV, rListOf, rTupOf, tM0, tM1, iStr, wipe, tYes, tFor_eq, tLc_eq, L2.start, cxOf, Cx.nox, Cx.wish, List.map_cons, List.map_nil, List.length_cons, List.length_nil, List.replicate, List.cons_append, List.nil_append, List.getElem?_cons_zero, List.getElem?_cons_succ, List.set_cons_zero, List.set_cons_succ, Option.some.injEq, and_assoc, exists_and_left, exists_and_right, exists_eq_left', exists_eq_left, exists_eq, exists_eq', true_and, and_true, Nat.reduceSub, Nat.reduceAdd, V.int.injEq, V.ref.injEq, V.bl.injEq, V.str.injEq, List.cons.injEq, decide_eq_true_eq, reduceCtorEq, false_or, or_false, and_false, false_and, exists_false, exists_const, if_true, if_false, Bool.true_eq_false, Bool.false_eq_true, ite_true, ite_false, Bool.not_true, Bool.not_false, decide_eq_false_iff_not, ne_eq])

section
variable {P : Program} {w : World} {K : PySem.W.Frag} {mg : Str → Option Value} {base : Heap}
/-! ### kinds stay -/
theorem Ak.up {H : Hp} {x : V} {D : Addr} {ys zs : List V} (hD : H D = some (.lst ys)) (h : Ak K H x) : Ak K (upd H D (.lst zs)) x := by
  obtain ⟨⟨n, hn⟩, hz⟩ := h
  refine ⟨⟨n, ?_⟩, hz⟩
  rcases hn with hn | ⟨rfl, a, C, d, fs, rfl, ha, hd, hC⟩
  · refine .inl ?_
    cases x with
    | ref a =>
      by_cases e : a = D
      · subst e
        rw [vty_lst hD] at hn
        rw [vty_lst upd_same]
        exact hn
      · unfold vty at hn ⊢
        dsimp only at hn ⊢
        rw [upd_ne e]
        exact hn
    | _ => exact hn
  · have n1 : a ≠ D := fun e => by
      rw [e, hD] at ha
      cases ha
    have n2 : d ≠ D := fun e => by
      rw [e, hD] at hd
      cases hd
    exact .inr ⟨rfl, a, C, d, fs, rfl, by rw [upd_ne n1]; exact ha, by rw [upd_ne n2]; exact hd, hC⟩
theorem Ak.at {H : Hp} {a : Addr} (h : Ak K H (.ref a)) : ∃ o, H a = some o := by
  obtain ⟨⟨n, hn⟩, _⟩ := h
  rcases hn with hn | ⟨_, b, C, d, fs, e, ha, _⟩
  · unfold vty at hn
    dsimp only at hn
    cases q : H a with
    | none => rw [q] at hn; cases hn
    | some o => exact ⟨o, rfl⟩
  · cases e
    exact ⟨_, ha⟩
theorem Th.same {H H' : Hp} {x : V} (e : Same H H') (h : Th K H x) : Th K H' x := by
  obtain ⟨h1, h2⟩ := h
  refine ⟨h1.same e, fun a xs hx ha => ?_⟩
  subst hx
  obtain ⟨o, ho⟩ := h1.at
  have z := e _ _ ho
  rw [ha] at z
  cases z
  obtain ⟨l, q⟩ := h2 a xs rfl ho
  exact ⟨l, fun x hx => (q x hx).same e⟩
theorem Th.up {H : Hp} {x : V} {D : Addr} {ys zs : List V} (hD : H D = some (.lst ys)) (h : Th K H x) : Th K (upd H D (.lst zs)) x := by
  obtain ⟨h1, h2⟩ := h
  refine ⟨h1.up hD, fun a xs hx ha => ?_⟩
  by_cases e : a = D
  · rw [e, upd_same] at ha
    cases ha
  · rw [upd_ne e] at ha
    obtain ⟨l, q⟩ := h2 a xs hx ha
    exact ⟨l, fun x hx => (q x hx).up hD⟩
theorem th_flat {H : Hp} {x : V} (h : Ak K H x) (n : ∀ a, x ≠ .ref a) : Th K H x := ⟨h, fun a _ e => absurd e (n a)⟩
theorem th_int {H : Hp} {i : Int} : Th K H (.int i) := th_flat ⟨⟨_, .inl rfl⟩, fun z e => by cases e⟩ (fun a e => by cases e)
theorem th_non {H : Hp} : Th K H .non := th_flat ⟨⟨_, .inl rfl⟩, fun z e => by cases e⟩ (fun a e => by cases e)
theorem th_bl {H : Hp} {b : Bool} : Th K H (.bl b) := th_flat ⟨⟨_, .inl rfl⟩, fun z e => by cases e⟩ (fun a e => by cases e)
theorem th_str {H : Hp} {z : Str} (h : z.length ≤ 10000) : Th K H (.str z) := th_flat ⟨⟨_, .inl rfl⟩, fun y e => by cases e; exact h⟩ (fun a e => by cases e)
theorem th_lst {H : Hp} {a : Addr} {xs : List V} (h : H a = some (.lst xs)) : Th K H (.ref a) := ⟨⟨⟨_, .inl (vty_lst h)⟩, fun z e => by cases e⟩, fun b ys e hb => by cases e; rw [h] at hb; cases hb⟩
theorem th_dK {H : Hp} {a : Addr} {xs : List (Key × V)} (h : H a = some (.dK xs)) : Th K H (.ref a) := ⟨⟨⟨_, .inl (vty_dK h)⟩, fun z e => by cases e⟩, fun b ys e hb => by cases e; rw [h] at hb; cases hb⟩
theorem th_tup {H : Hp} {a : Addr} {xs : List V} (h : H a = some (.tup xs)) (hl : xs.length ≤ 1000) (hx : ∀ x ∈ xs, Ak K H x) : Th K H (.ref a) := ⟨⟨⟨_, .inl (vty_tup h)⟩, fun z e => by cases e⟩, fun b ys e hb => by cases e; rw [h] at hb; cases hb; exact ⟨hl, hx⟩⟩
theorem ak_row {H : Hp} {r : Row} : ∀ x ∈ rowV r, Ak K H x := fun x hx => by
  obtain ⟨o, _, rfl⟩ := List.mem_map.mp hx
  cases o with
  | none => exact th_non.1
  | some i => exact th_int.1
theorem cut_upd {b D : Addr} {H : Hp} {o : HO} (h : D ≠ b) : cut b (upd H D o) = upd (cut b H) D o := by
  funext a
  by_cases e : a = b
  · subst e
    rw [cut_at, upd_ne (Ne.symm h), cut_at]
  · rw [cut_ne e]
    by_cases e2 : a = D
    · subst e2
      rw [upd_same, upd_same]
    · rw [upd_ne e2, upd_ne e2, cut_ne e]
/-- a comprehension whose items are told by the heap, whatever lists grow -/
theorem lcK {B : BagId} {J : It} {n : Nat} {G : Hp → Prop} {Y : Nat → Hp → V → Hp → Prop} (wk : Walk J n G Y) {g : TG} {te : TE} {vs : List Nat} {σ : L2.St} {H1 : Hp} {Q : VK} (Φ : V → Hp → Prop) (p1 : ∀ y H H', Same H H' → Φ y H → Φ y H') (p2 : ∀ y H D ys zs, H D = some (.lst ys) → Φ y H → Φ y (upd H D (.lst zs)))
    (hb : Bag B H1) (hG : ∀ H, Ext B H1 H → G H) (hn : n ≤ 100000)
    (hs : ∀ i x H H' (R : V → Hp → Prop), i < n → Ext B H1 H → Y i H x H' → (∀ y H4, Ext B H H4 → Φ y (cut B.b H4) → R y H4) → g x (wipe σ vs) H' fun σ2 H2 => wipe σ2 vs = wipe σ vs ∧ te σ2 H2 R)
    (hd : ∀ D H ys, H1 D = none → Ext B H1 H → cut B.b H D = some (.lst ys) → ys.length = n → (∀ y ∈ ys, Φ y (cut B.b H)) → Q (.ref D) H) : LcJ g tYes te vs σ Q J H1 := by
  intro D hD
  have hDb : D ≠ B.b := hb.fresh hD
  refine lc_it wk (fun i H => Ext B H1 H ∧ ∃ ys, cut B.b H D = some (.lst ys) ∧ ys.length = i ∧ ∀ y ∈ ys, Φ y (cut B.b H)) ⟨.new hb hD, [], cut_new hb hD, rfl, fun y e => by simp at e⟩ (fun i H _ h => hG H h.1) (fun i x H H' hi h y => ?_) (fun H h => ?_)
  · obtain ⟨h1, ys, h2, h3, h4⟩ := h
    refine hs i x H H' _ hi h1 y fun z H4 s4 p => ?_
    have h5 := s4.same _ _ h2
    refine ⟨ys, (cut_some h5).1, by rw [h3]; exact Nat.lt_of_lt_of_le hi (Nat.le_trans hn (by decide)), ⟨?_, ?_⟩, ys ++ [z], cut_of upd_same hDb, by rw [List.length_append, h3]; rfl, fun v hv => ?_⟩
    · intro a o e
      have e1 := h1.same _ _ e
      have e2 := s4.same _ _ e1
      obtain ⟨e3, e4⟩ := cut_some e2
      have na : a ≠ D := ne_of_none (cut_some e).1 hD
      exact cut_of (by rw [upd_ne na]; exact e3) e4
    · obtain ⟨i, g, s, c, k1, r⟩ := s4.bag.ex
      exact ⟨s4.bag.ne, by rw [upd_ne (ne_of_none hb.items hD)]; exact s4.bag.items, i, g, s, c, by rw [upd_ne (Ne.symm hDb)]; exact k1, r⟩
    · rw [cut_upd hDb]
      refine p2 _ _ _ _ _ h5 ?_
      rcases List.mem_append.mp hv with hv | hv
      · exact p1 _ _ _ s4.same (h4 v hv)
      · cases List.mem_singleton.mp hv
        exact p
  · obtain ⟨h1, ys, h2, h3, h4⟩ := h
    exact hd D H ys hD h1 h2 h3 h4
theorem cut_tup {B : BagId} {H : Hp} {p : Addr} {xs : List V} (hb : Bag B H) (h : H p = some (.tup xs)) : cut B.b H p = some (.tup xs) := cut_of h fun e => by
  obtain ⟨i, g, s, c, k1, r⟩ := hb.ex
  rw [e, k1] at h
  cases h
theorem iek_ext {ta tb : TE} {σ : L2.St} {H : Hp} {Q : VK} {p : Prop} [Decidable p] (Φ : V → Hp → Prop) (h1 : p → ∀ R : VK, (∀ v H', Φ v H' → R v H') → ta σ H R) (h2 : ¬ p → ∀ R : VK, (∀ v H', Φ v H' → R v H') → tb σ H R) (k : ∀ v H', Φ v H' → Q v H') : IeK ta tb σ Q (decide p) H :=
  iek (fun c => h1 c Q k) (fun c => h2 c Q k)
theorem Ext.mut {B : BagId} {H H' : Hp} {D : Addr} {o : HO} (hb : Bag B H) (e : Ext B H H') (hD : H D = none) : Ext B H (upd H' D o) := by
  have hDb : D ≠ B.b := hb.fresh hD
  refine ⟨fun a u h => ?_, ?_⟩
  · have h1 := e.same _ _ h
    obtain ⟨h2, h3⟩ := cut_some h1
    exact cut_of (by rw [upd_ne (ne_of_none (cut_some h).1 hD)]; exact h2) h3
  · obtain ⟨i, g, s, c, k1, r⟩ := e.bag.ex
    exact ⟨e.bag.ne, by rw [upd_ne (ne_of_none hb.items hD)]; exact e.bag.items, i, g, s, c, by rw [upd_ne (Ne.symm hDb)]; exact k1, r⟩
theorem gen_new {B : BagId} {H H' : Hp} {p : Addr} {o : HO} (hb : Bag B H) (hp : H p = none) (hh : upd H p o = H') : Ext B H H' ∧ cut B.b H' p = some o := by
  subst hh
  exact ⟨.new hb hp, cut_new hb hp⟩
/-! ### any value -/
def sp_anyT (K : PySem.W.Frag) (m : Nat) : Sp := fun vs H Q _ => ∃ (B : BagId), vs = [.ref B.b, .int (m : Nat)] ∧ Bag B H ∧ ∀ v H', Ext B H H' → Th K (cut B.b H') v → Q v H'
def lkT (K : PySem.W.Frag) : Nat → Sp
  | 0 => fun _ _ _ _ => False
  | m + 1 => sp_anyT K m
theorem anyT_step (T : Txt K mg) {m k k' : Nat} (hk : 2 ≤ k) (hk' : k' ≤ k) (G_l_any : FnOk P w K mg base CX0 k' T.l_any.f T.l_any.d ["_law_bag_here", "_law_deep_here"] (lkT K m)) :
    FnOk P w K mg base CX0 (k + 1) T.l_any.f T.l_any.d ["_law_bag_here", "_law_deep_here"] (lkT K (m + 1)) := by
  have G_l_draw : FnOk P w K mg base CX0 1 T.l_draw.f T.l_draw.d ["_law_bag_here", "_law_size"] sp_draw := ok_draw T
  have G_l_of : FnOk P w K mg base CX0 2 T.l_of.f T.l_of.d ["_law_bag_here", "_law_things"] (sp_of K) := ok_of T
  refine T.l_any.F.ok sc_l_any (fun vs H Q E h => ?_) (fun cdv A outer s H vs Q E hr h => ?_)
  · obtain ⟨B, rfl, _⟩ := h
    rfl
  obtain ⟨B, rfl, hB, q⟩ := h
  refine ⟨_, (pss_cons (ps_set (i := 2) sc_l_any.nd rfl (.inl rfl) (pe_call G_l_draw (hr.mono (by omega)) (by rfl) T.l_draw.g T.l_draw.kp T.l_draw.b .nil pass0 (pa_cons (pv 0) (pa_cons (pe_ifExp (pt_cmpR op_eq (pv 1) pe_int (nomark _)) pe_int pe_int) pa_nil))))
      (pss_cons (ps_if (pt_cmpR op_lt (pv 2) pe_int (nomark _))
      (pss_one (ps_ret (pe_ix ix_list (pe_lst (pa_cons pe_non (pa_cons pe_bl (pa_cons pe_bl pa_nil)))) (pv 2) (fun _ _ => rfl))))
      pss_nil)
      (pss_cons (ps_if (pt_cmpR op_lt (pv 2) pe_int (nomark _))
      (pss_one (ps_ret (pe_call G_l_of (hr.mono (by omega)) (by rfl) T.l_of.g T.l_of.kp T.l_of.b .nil pass0 (pa_cons (pv 0) (pa_cons (pe_lst (pa_cons pe_int (pa_cons pe_int (pa_cons pe_int (pa_cons pe_int (pa_cons (pe_op op_sub pe_int pe_int) (pa_cons (pe_call G_l_draw (hr.mono (by omega)) (by rfl) T.l_draw.g T.l_draw.kp T.l_draw.b .nil pass0 (pa_cons (pv 0) (pa_cons pe_int pa_nil))) (pa_cons (pe_op op_sub pe_int (pe_call G_l_draw (hr.mono (by omega)) (by rfl) T.l_draw.g T.l_draw.kp T.l_draw.b .nil pass0 (pa_cons (pv 0) (pa_cons pe_int pa_nil)))) pa_nil)))))))) pa_nil)))))
      pss_nil)
      (pss_cons (ps_if (pt_cmpR op_lt (pv 2) pe_int (nomark _))
      (pss_one (ps_ret (pe_call G_l_of (hr.mono (by omega)) (by rfl) T.l_of.g T.l_of.kp T.l_of.b .nil pass0 (pa_cons (pv 0) (pa_cons (pe_lst (pa_cons pe_str (pa_cons pe_str (pa_cons pe_str (pa_cons pe_str (pa_cons pe_str (pa_cons pe_str pa_nil))))))) pa_nil)))))
      pss_nil)
      (pss_cons (ps_setLc (i := 3) (own := [("_law_k", 4)]) (g := gName 4) rfl sc_l_any.nd rfl rfl (sw_true rfl rfl rfl (by decide +kernel)) (pi_range1 (by rfl) T.z_range (pa_cons (pe_call G_l_draw (hr.mono (by omega)) (by rfl) T.l_draw.g T.l_draw.kp T.l_draw.b .nil pass0 (pa_cons (pv 0) (pa_cons pe_int pa_nil))) pa_nil)) (blkOk_by (own := [("_law_k", 4)]) (N := ["_law_bag_here", "_law_deep_here", "_law_pick", "_law_parts", "_law_k"]) (sc := defScope s_l_any) (by decide +kernel)) (fun _ _ _ _ _ => (pg_name (i := 4) sc_l_any.nd rfl (.inl rfl))) (fun _ _ _ _ _ => pts_nil) (fun _ _ _ _ _ => (pe_call G_l_any (hr.mono (by omega)) (by rfl) T.l_any.g T.l_any.kp T.l_any.b .nil pass0 (pa_cons (pv 0) (pa_cons (pe_op op_sub (pv 1) pe_int) pa_nil)))))
      (pss_cons (ps_if (pt_cmpR op_eq (pv 2) pe_int (nomark _))
      (pss_one (ps_ret (pe_disp (pps_cons pe_str (pv 3) (pps_cons pe_str pe_int pps_nil)) (by rfl) (by rfl) (fun z => by cases z) (by decide))))
      pss_nil)
      (pss_one (ps_ret (pe_ifExp (pt_cmpR op_lt (pv 2) pe_int (nomark _)) (pv 3) (pe_callTy call_tuple_of (by rfl) T.z_tuple (by decide +kernel) (pa_cons (pv 3) pa_nil))))))))))), ?_⟩
  walk_at "wp"
  refine iek_c fun v v1 v2 => ?_
  obtain ⟨n, rfl, n1, n2⟩ : ∃ n : Int, v = .int n ∧ (m = 0 → n = 9) ∧ (n = 9 ∨ n = 13) := by
    by_cases c : ((m : Nat) : Int) = 0
    · exact ⟨9, v1 c, fun _ => rfl, .inl rfl⟩
    · exact ⟨13, v2 c, fun z => absurd (by rw [z]; rfl) c, .inr rfl⟩
  refine ⟨B, n, rfl, hB, by omega, by omega, fun pick H1 e1 h0 h1 => ?_⟩
  walk_at "wp"
  refine ifk (fun c1 => ?_) (fun c1 => ?_)
  · walk_at "wp"
    intro p hp
    have : pick = 0 ∨ pick = 1 ∨ pick = 2 := by omega
    have e2 : Ext B H1 (upd H1 p (.lst [.non, .bl true, .bl false])) := .new e1.bag hp
    rcases this with rfl | rfl | rfl
    · exact ⟨_, .inl (.inl upd_same), _, rfl, q _ _ (e1.trans e2) th_non⟩
    · exact ⟨_, .inl (.inl upd_same), _, rfl, q _ _ (e1.trans e2) th_bl⟩
    · exact ⟨_, .inl (.inl upd_same), _, rfl, q _ _ (e1.trans e2) th_bl⟩
  walk_at "wp"
  refine ifk (fun c2 => ?_) (fun c2 => ?_)
  · walk_at "wp"
    refine ⟨B, _, rfl, e1.bag, by decide, by decide, fun k2 H2 e2 _ _ => ⟨B, _, rfl, e2.bag, by decide, by decide, fun k3 H3 e3 _ _ => ?_⟩⟩
    walk_at "wp"
    intro p hp
    have e4 := Ext.new (o := HO.lst [V.int 0, V.int 1, V.int 2, V.int 3, V.int (0 - 1), V.int k2, V.int (0 - k3)]) e3.bag hp
    refine ⟨B, p, _, rfl, e4.bag, .inl (.inl (cut_new e3.bag hp)), by simp, by simp, fun v H5 hm e5 => q _ _ (e1.trans (e2.trans (e3.trans (e4.trans e5)))) ?_⟩
    simp only [List.mem_cons, List.not_mem_nil, or_false] at hm
    rcases hm with rfl | rfl | rfl | rfl | rfl | rfl | rfl <;> exact th_int
  walk_at "wp"
  refine ifk (fun c3 => ?_) (fun c3 => ?_)
  · walk_at "wp"
    intro p hp
    have e4 := Ext.new (o := HO.lst [V.str (Str.ofString ""), V.str (Str.ofString "0"), V.str (Str.ofString "or"), V.str (Str.ofString "~"), V.str (Str.ofString "a b"), V.str (Str.ofString "box\n")]) e1.bag hp
    refine ⟨B, p, _, rfl, e4.bag, .inl (.inl (cut_new e1.bag hp)), by decide, by decide, fun v H5 hm e5 => q _ _ (e1.trans (e4.trans e5)) ?_⟩
    simp only [List.mem_cons, List.not_mem_nil, or_false] at hm
    rcases hm with rfl | rfl | rfl | rfl | rfl | rfl <;> exact th_str (by decide)
  walk_at "wp"
  obtain ⟨m, rfl⟩ : ∃ j, m = j + 1 := ⟨m - 1, by omega⟩
  refine ⟨B, _, rfl, e1.bag, by decide, by decide, fun k2 H2 e2 hk0 hk1 => ?_⟩
  walk_at "wp"
  refine ⟨by omega, by omega, ?_⟩
  refine lcK (B := B) (walk_range (n := k2.toNat)) (fun v H => Ak K H v) (fun _ _ _ e h => h.same e) (fun _ _ _ _ _ e h => h.up e) e2.bag (fun _ _ => trivial) (by omega) (fun i x H3 H4 R hi e3 hy c => ?_) (fun D H3 ys hD e3 hz hlen hall => ?_)
  · obtain ⟨rfl, rfl⟩ := hy
    walk_at "wp"
    refine ⟨B, ?_, e3.bag, fun v H5 e5 hv => c _ _ e5 hv.1⟩
    congr 3
    omega
  · have e13 := e1.trans (e2.trans e3)
    have hzD := (cut_some hz).1
    refine ifk (fun c4 => ?_) (fun c4 => ?_)
    · walk_at "wp"
      intro p hp
      refine ⟨[(.inr "or", .ref D), (.inr "a", .int 0)], rfl, by simp, ?_⟩
      rw [upd_upd]
      exact q _ _ (e13.trans (.new e3.bag hp)) (th_dK (cut_new e3.bag hp))
    · walk_at "wp"
      refine iek (fun c5 => ?_) (fun c5 => ?_)
      · walk_at "wp"
        exact q _ _ e13 (th_lst hz)
      · walk_at "wp"
        exact ⟨ys, .inl ⟨.inl (.inl hzD), fun p hp => q _ _ (e13.trans (.new e3.bag hp)) (th_tup (cut_new e3.bag hp) (by omega) fun x hx => (hall x hx).same (Ext.new e3.bag hp).same)⟩⟩
end
end Kx

set_option Elab.async false
set_option linter.all false
set_option maxRecDepth 100000
set_option maxHeartbeats 4000000
namespace Kx
open PySem PySem.Spec PyProof.Rows L2
local macro_rules | `(tactic| walk_at "wp") => `(tactic| simp only [tSeq, tAsg, tC, tVar, tOp, tUn, rI, rI0, rU, tCB, tCons, tNil, tRet, tRetN, tDrop, tLst, tTup, tIf_eq, tIfS_eq, ifk_t, ifk_f, iek_t, iek_f, tTest, tB, tAnd, tOr, tNot, tAndV, tOrV, tNotV, tNext, tSl, rSlL, tPart, tNoPart, gName, gTup, gCons, gNil, gSub, rSetL, tCall, iList, iTup, iRng1, iRng2, rIxL, rIxT, rEq, rNe, scal_ii, scal_bb, scal_ss, scal_nx, scal_xn, RZ.iZipA, rIsiF, rIsiFT, vty_non, vty_bl, vty_int, vty_str, isa_list_list, isa_list_tuple, isa_list_bool, isa_list_int, isa_list_str, isa_tuple_list, isa_tuple_tuple, isa_tuple_bool, isa_tuple_int, isa_tuple_str, isa_dict_list, isa_dict_tuple, isa_dict_bool, isa_dict_int, isa_dict_str, isa_bool_list, isa_bool_tuple, isa_bool_bool, isa_bool_int, isa_bool_str, isa_int_list, isa_int_tuple, isa_int_bool, isa_int_int, isa_int_str, isa_str_list, isa_str_tuple, isa_str_bool, isa_str_int, isa_str_str, isa_non_list, isa_non_tuple, isa_non_bool, isa_non_int, isa_non_str, kc_bool, kc_int, kc_str, kc_list, kc_tuple, upd_same, HO.tup.injEq, HO.lst.injEq, V.ty.injEq, Bool.or_true, Bool.true_or, Bool.or_false, Bool.false_or, sz_0, sz_1, sz_2, sz_3, sz_4, sz_5, sz_6, sz_7, sz_8, sz_9, sz_10, sz_11, sz_12, sz_13, decide_true, decide_false, C8.tCut, tBM, tBM0, rAppend, rTupU, rCatU, rSlU, rRepT, rRep, rCat, rIsiG, kn_non, kn_bl, kn_int, kn_str, tChain, tMkV, exists_eq, tPar, tCallN,  tDisp, tPairs, rSlS, rLenS, rLenV, rListOf, rTupOf, tM0, tM1, iStr, wipe, tYes, tFor_eq, tLc_eq, L2.start, cxOf, Cx.nox, Cx.wish, List.map_cons, List.map_nil, List.length_cons, List.length_nil, List.replicate, List.cons_append, List.nil_append, List.getElem?_cons_zero, List.getElem?_cons_succ, List.set_cons_zero, List.set_cons_succ, Option.some.injEq, and_assoc, exists_and_left, exists_and_right, exists_eq_left', exists_eq_left, exists_eq, exists_eq', true_and, and_true, Nat.reduceSub, Nat.reduceAdd, V.int.injEq, V.ref.injEq, V.bl.injEq, V.str.injEq, List.cons.injEq, decide_eq_true_eq, reduceCtorEq, false_or, or_false, and_false, false_and, exists_false, exists_const, if_true, if_false, Bool.true_eq_false, Bool.false_eq_true, ite_true, ite_false, Bool.not_true, Bool.not_false, decide_eq_false_iff_not, ne_eq])

section
variable {P : Program} {w : World} {K : PySem.W.Frag} {mg : Str → Option Value} {base : Heap}
/-! ### words of letters -/
def ABC : List Nat := (Str.ofString "abcdefghijklmnopqrstuvwxyz" : Str).cps.toList
def sp_letters : Sp := fun vs H Q _ => ∃ (B : BagId) (n : Int), vs = [.ref B.b, .int n] ∧ Bag B H ∧ 0 ≤ n ∧ n ≤ 100 ∧ ∀ (z : Str) H', Ext B H H' → (z.length : Int) = n → (∀ c ∈ z.cps.toList, c ∈ ABC) → Q (.str z) H'
theorem signs_of : ∀ {ys : List V}, (∀ (i : Nat) (y : V), ys[i]? = some y → ∃ c : Nat, y = .str ⟨#[c]⟩ ∧ c ∈ ABC) → ∃ cs : List Nat, ys = (cs.map fun c => (⟨#[c]⟩ : Str)).map V.str ∧ ∀ c ∈ cs, c ∈ ABC
  | [], _ => ⟨[], rfl, fun c h => by simp at h⟩
  | y :: ys, h => by
    obtain ⟨c, rfl, hc⟩ := h 0 y rfl
    obtain ⟨cs, rfl, hcs⟩ := signs_of (ys := ys) fun i y e => h (i + 1) y e
    refine ⟨c :: cs, rfl, fun d hd => ?_⟩
    rcases List.mem_cons.mp hd with rfl | hd
    · exact hc
    · exact hcs d hd
theorem joinL_nil : ∀ (ps : List (List Nat)), TL.joinL [] ps = ps.flatten
  | [] => rfl
  | [p] => by show p = [p].flatten; simp
  | p :: q :: r => by
    show p ++ ([] ++ TL.joinL [] (q :: r)) = (p :: q :: r).flatten
    rw [joinL_nil (q :: r), List.nil_append]
    rfl
theorem join_signs (cs : List Nat) : Txt.join ⟨#[]⟩ (cs.map fun c => (⟨#[c]⟩ : Str)) = ⟨cs.toArray⟩ := by
  rw [TL.join_eq]
  refine TL.ext_tl ?_
  rw [TL.tl_join]
  show TL.joinL [] _ = _
  rw [joinL_nil, List.map_map]
  show (cs.map fun c => [c]).flatten = cs.toArray.toList
  rw [List.toList_toArray]
  induction cs with
  | nil => rfl
  | cons o r ih => rw [List.map_cons, List.flatten_cons, ih]; rfl
theorem sum_signs : ∀ (r : List Nat), ((r.map fun c => (⟨#[c]⟩ : Str)).map (fun x => x.length)).sum = r.length
  | [] => rfl
  | o :: r => by
    rw [List.map_cons, List.map_cons, List.sum_cons, sum_signs r]
    show 1 + r.length = r.length + 1
    omega
/-! ### list(text) -/
theorem call_list_strR {X : Cx} (hc : X.calm = true := by rfl) : CallR X (.type "list") (fun xs H Q => ∃ z, xs = [.str z] ∧ z.length ≤ sizeLine ∧ ∀ l, H l = none → Q (.ref l) (upd H l (.lst (z.cps.toList.map fun c => V.str ⟨#[c]⟩)))) := by
  intro pins s σ H xs us Q I r h
  obtain ⟨z, rfl, hz, q⟩ := h
  obtain ⟨u, rfl, t, rfl⟩ := vals1 r
  refine PySem.call_list_str (I.ok.hd hc) z t (fun h' tk acc' c' kp e hacc => ?_) hz
  have el : acc'.toList.length = acc'.size := by simp
  refine ⟨.ref s.heap.objs.size, _, I.laid kp (Nat.le_refl _) (show ObjOk X.prog X.w _ _ _ (.lst (z.cps.toList.map fun c => V.str ⟨#[c]⟩)) from ⟨?_, acc'.toList, c', ?_, ?_⟩), rfl, q _ (I.hok.fresh (Nat.le_refl _))⟩
  · rw [List.length_map, Array.length_toList]; exact hz
  · refine vals_of_at (by rw [List.length_map, el, hacc.1, Array.length_toList]) fun j x w h1 h2 => ?_
    obtain ⟨c, u, hc, rfl⟩ := hacc.2 j w (by rw [← Array.getElem?_toList]; exact h2)
    rw [List.getElem?_map, Array.getElem?_toList, hc] at h1
    cases h1
    exact ⟨u, rfl⟩
  · rw [Array.toArray_toList]; exact e
theorem ok_letters (T : Txt K mg) : FnOk P w K mg base CX0 3 T.l_letters.f T.l_letters.d ["_law_bag_here", "_law_size"] sp_letters := by
  have G_l_of : FnOk P w K mg base CX0 2 T.l_of.f T.l_of.d ["_law_bag_here", "_law_things"] (sp_of K) := ok_of T
  refine T.l_letters.F.ok sc_l_letters (fun vs H Q E h => ?_) (fun cdv A outer s H vs Q E hr h => ?_)
  · obtain ⟨B, n, rfl, _⟩ := h
    rfl
  obtain ⟨B, n, rfl, hB, hn0, hn1, q⟩ := h
  refine ⟨_, (pss_one (ps_ret (pe_join pe_str (pe_lc (own := [("_law_k", 2)]) (g := gName 2) rfl sc_l_letters.nd (pi_range1 (by rfl) T.z_range (pa_cons (pv 1) pa_nil)) (blkOk_by (own := [("_law_k", 2)]) (N := ["_law_bag_here", "_law_size", "_law_k"]) (sc := defScope s_l_letters) (by decide +kernel)) (fun _ _ _ _ _ => (pg_name (i := 2) sc_l_letters.nd rfl (.inl rfl))) (fun _ _ _ _ _ => pts_nil) (fun _ _ _ _ _ => (pe_call G_l_of (hr.mono (by omega)) (by rfl) T.l_of.g T.l_of.kp T.l_of.b .nil pass0 (pa_cons (pv 0) (pa_cons (pe_callTy call_list_strR (by rfl) T.z_list (by decide +kernel) (pa_cons pe_str pa_nil)) pa_nil)))))))), ?_⟩
  walk_at "wp"
  refine ⟨by omega, by omega, ?_⟩
  refine lcB (B := B) (walk_range (n := n.toNat)) (fun i y => ∃ c : Nat, y = .str ⟨#[c]⟩ ∧ c ∈ ABC) hB (fun _ _ => trivial) (by omega) (fun i x H1 H2 R hi e1 hy c => ?_) (fun D H1 ys hD e1 hz hlen hall => ?_)
  · obtain ⟨rfl, rfl⟩ := hy
    walk_at "wp"
    refine ⟨by decide, fun l hl => ⟨B, l, _, rfl, (Ext.new e1.bag hl).bag, .inl (.inl (cut_new e1.bag hl)), by decide, by decide, fun v H4 hm e4 => c _ _ ((Ext.new e1.bag hl).trans e4) ?_⟩⟩
    obtain ⟨d, hd, rfl⟩ := List.mem_map.mp hm
    exact ⟨d, rfl, hd⟩
  · obtain ⟨cs, rfl, hcs⟩ := signs_of hall
    have hl : cs.length = n.toNat := by
      rw [List.length_map, List.length_map] at hlen
      exact hlen
    refine ⟨D, rfl, cs.map fun c => (⟨#[c]⟩ : Str), .inl (.inl (.inl (cut_some hz).1)), ?_, ?_⟩
    · rw [sum_signs]
      show cs.length + _ * 0 ≤ _
      omega
    · show Q (.str (Txt.join ⟨#[]⟩ _)) H1
      rw [join_signs]
      refine q _ _ e1 ?_ ?_
      · show ((cs.toArray.size : Nat) : Int) = n
        rw [List.size_toArray]
        omega
      · show ∀ c ∈ cs.toArray.toList, c ∈ ABC
        rw [List.toList_toArray]
        exact hcs
end
end Kx

set_option Elab.async false
set_option linter.all false
set_option maxRecDepth 100000
set_option maxHeartbeats 4000000
namespace Kx
open PySem PySem.Spec PyProof.Rows L2
local macro_rules | `(tactic| walk_at "wp") => `(tactic| simp only [tSeq, tAsg, tC, tVar, tOp, tUn, rI, rI0, rU, tCB, tCons, tNil, tRet, tRetN, tDrop, tLst, tTup, tIf_eq, tIfS_eq, ifk_t, ifk_f, iek_t, iek_f, tTest, tB, tAnd, tOr, tNot, tAndV, tOrV, tNotV, tNext, tSl, rSlL, tPart, tNoPart, gName, gTup, gCons, gNil, gSub, rSetL, tCall, iList, iTup, iRng1, iRng2, rIxL, rIxT, rEq, rNe, scal_ii, scal_bb, scal_ss, scal_nx, scal_xn, RZ.iZipA, rIsiF, rIsiFT, vty_non, vty_bl, vty_int, vty_str, isa_list_list, isa_list_tuple, isa_list_bool, isa_list_int, isa_list_str, isa_tuple_list, isa_tuple_tuple, isa_tuple_bool, isa_tuple_int, isa_tuple_str, isa_dict_list, isa_dict_tuple, isa_dict_bool, isa_dict_int, isa_dict_str, isa_bool_list, isa_bool_tuple, isa_bool_bool, isa_bool_int, isa_bool_str, isa_int_list, isa_int_tuple, isa_int_bool, isa_int_int, isa_int_str, isa_str_list, isa_str_tuple, isa_str_bool, isa_str_int, isa_str_str, isa_non_list, isa_non_tuple, isa_non_bool, isa_non_int, isa_non_str, kc_bool, kc_int, kc_str, kc_list, kc_tuple, upd_same, HO.tup.injEq, HO.lst.injEq, V.ty.injEq, Bool.or_true, Bool.true_or, Bool.or_false, Bool.false_or, sz_0, sz_1, sz_2, sz_3, sz_4, sz_5, sz_6, sz_7, sz_8, sz_9, sz_10, sz_11, sz_12, sz_13, decide_true, decide_false, C8.tCut, tBM, tBM0, rAppend, rTupU, rCatU, rSlU, rRepT, rRep, rCat, rIsiG, kn_non, kn_bl, kn_int, kn_str, tChain, tMkV, exists_eq, tPar, tCallN,  tDisp, tPairs, rSlS, rLenS, rLenV, rListOf, rTupOf, tM0, tM1, iStr, wipe, tYes, tFor_eq, tLc_eq, L2.start, cxOf, Cx.nox, Cx.wish, List.map_cons, List.map_nil, List.length_cons, List.length_nil, List.replicate, List.cons_append, List.nil_append, List.getElem?_cons_zero, List.getElem?_cons_succ, List.set_cons_zero, List.set_cons_succ, Option.some.injEq, and_assoc, exists_and_left, exists_and_right, exists_eq_left', exists_eq_left, exists_eq, exists_eq', true_and, and_true, Nat.reduceSub, Nat.reduceAdd, V.int.injEq, V.ref.injEq, V.bl.injEq, V.str.injEq, List.cons.injEq, decide_eq_true_eq, reduceCtorEq, false_or, or_false, and_false, false_and, exists_false, exists_const, if_true, if_false, Bool.true_eq_false, Bool.false_eq_true, ite_true, ite_false, Bool.not_true, Bool.not_false, decide_eq_false_iff_not, ne_eq])

section
variable {P : Program} {w : World} {K : PySem.W.Frag} {mg : Str → Option Value} {base : Heap}
def repS (z : Str) (k : Int) : Str := ⟨(List.replicate k.toNat z.cps).foldl (· ++ ·) #[]⟩
theorem rep_size (c : Array Nat) : ∀ (n : Nat) (a : Array Nat), ((List.replicate n c).foldl (· ++ ·) a).size = a.size + n * c.size
  | 0, a => by simp
  | n + 1, a => by
    rw [List.replicate_succ, List.foldl_cons, rep_size c n, Array.size_append, Nat.succ_mul]
    omega
theorem op_rep_str {X : Cx} : OpR X (binaryOp .Mult) (fun x y H Q => ∃ z k, x = .str z ∧ y = .int k ∧ (2 ≤ k ∧ k ≤ 10000 ∧ 0 < z.length ∧ z.length ≤ 1000) ∧ Q (.str (repS z k)) H) := by
  intro pins s σ H x y v u Q I rx ry h
  obtain ⟨z, k, rfl, rfl, ⟨k1, k2, z1, z2⟩, q⟩ := h
  obtain ⟨t, rfl⟩ := rx
  obtain ⟨t', rfl⟩ := ry
  have hs : sizeLine = 16777216 := sizeLine_eq
  have hk : k.toNat ≤ 10000 := by omega
  have hm : z.length * k.toNat ≤ 1000 * 10000 := Nat.mul_le_mul z2 hk
  have e1 : ¬ k < 1 := by omega
  have e2 : (k == 1 || z.length == 0) = false := by
    have a1 : (k == 1) = false := by rw [beq_eq_false_iff_ne]; omega
    have a2 : (z.length == 0) = false := by rw [beq_eq_false_iff_ne]; omega
    rw [a1, a2]
    rfl
  refine PySem.P.mul_str (by rw [decide_eq_false (by omega), decide_eq_false (by omega)]; rfl) (fun _ _ h => ?_) (fun _ _ => ?_) ?_
  · have h1 : (z.length : Int) * k ≤ 1000 * 10000 := Int.mul_le_mul (by omega) (by omega) (by omega) (by omega)
    have h2 : (z.length : Int) ≤ (2 ^ 63 - 1) / k := Int.le_ediv_of_mul_le (by omega) (by omega)
    omega
  · unfold Builtin.Str.tooLong
    exact decide_eq_false (by omega)
  · rw [if_neg e1, if_neg (by rw [e2]; exact Bool.false_ne_true)]
    refine ⟨?_, .str (repS z k), H, I.tok _, ⟨_, rfl⟩, q⟩
    show ((List.replicate k.toNat z.cps).foldl (· ++ ·) #[]).size ≤ sizeLine
    rw [rep_size]
    have : k.toNat * z.cps.size = z.length * k.toNat := Nat.mul_comm _ _
    simp only [Array.size_empty]
    omega
theorem cutS_len (z : Str) (lo hi : Option Int) : (cutS z lo hi).length ≤ z.length := by
  unfold cutS
  show (List.toArray _).size ≤ z.cps.size
  rw [List.size_toArray, List.length_take, List.length_drop, Array.length_toList]
  omega
theorem app_len (x y : Str) : (x ++ y).length = x.length + y.length := by
  rw [TL.len_tl, TL.tl_append, List.length_append, ← TL.len_tl, ← TL.len_tl]
theorem sl_small {n : Nat} (h : n ≤ 100000) : n ≤ sizeLine := Nat.le_trans h (by decide)
theorem rep_len (z : Str) (k : Int) : (repS z k).length = k.toNat * z.length := by
  show ((List.replicate k.toNat z.cps).foldl (· ++ ·) #[]).size = _
  rw [rep_size, Array.size_empty, Nat.zero_add]
  rfl
def sp_thing (K : PySem.W.Frag) : Sp := fun vs H Q _ => ∃ (B : BagId), vs = [.ref B.b] ∧ Bag B H ∧ ∀ v H', Ext B H H' → Th K (cut B.b H') v → Q v H'
theorem ok_nearly_name (T : Txt K mg) : FnOk P w K mg base CX0 4 T.l_nearly_name.f T.l_nearly_name.d ["_law_bag_here"] (sp_thing K) := by
  have G_l_draw : FnOk P w K mg base CX0 1 T.l_draw.f T.l_draw.d ["_law_bag_here", "_law_size"] sp_draw := ok_draw T
  have G_l_of : FnOk P w K mg base CX0 2 T.l_of.f T.l_of.d ["_law_bag_here", "_law_things"] (sp_of K) := ok_of T
  have G_l_letters : FnOk P w K mg base CX0 3 T.l_letters.f T.l_letters.d ["_law_bag_here", "_law_size"] sp_letters := ok_letters T
  refine T.l_nearly_name.F.ok sc_l_nearly_name (fun vs H Q E h => ?_) (fun cdv A outer s H vs Q E hr h => ?_)
  · obtain ⟨B, rfl, _⟩ := h
    rfl
  obtain ⟨B, rfl, hB, q⟩ := h
  refine ⟨_, (pss_cons (ps_set (i := 1) sc_l_nearly_name.nd rfl (.inl rfl) (pe_call G_l_letters (hr.mono (by omega)) (by rfl) T.l_letters.g T.l_letters.kp T.l_letters.b .nil pass0 (pa_cons (pv 0) (pa_cons (pe_call G_l_of (hr.mono (by omega)) (by rfl) T.l_of.g T.l_of.kp T.l_of.b .nil pass0 (pa_cons (pv 0) (pa_cons (pe_lst (pa_cons pe_int (pa_cons pe_int (pa_cons pe_int (pa_cons pe_int (pa_cons pe_int (pa_cons pe_int (pa_cons pe_int (pa_cons pe_int pa_nil))))))))) pa_nil))) pa_nil))))
      (pss_cons (ps_set (i := 2) sc_l_nearly_name.nd rfl (.inl rfl) (pe_call G_l_draw (hr.mono (by omega)) (by rfl) T.l_draw.g T.l_draw.kp T.l_draw.b .nil pass0 (pa_cons (pv 0) (pa_cons (pe_op op_add (pe_callB call_len_str (by rfl) T.z_len PySem.boot_len (pa_cons (pv 1) pa_nil)) pe_int) pa_nil))))
      (pss_cons (ps_set (i := 3) sc_l_nearly_name.nd rfl (.inl rfl) (pe_call G_l_of (hr.mono (by omega)) (by rfl) T.l_of.g T.l_of.kp T.l_of.b .nil pass0 (pa_cons (pv 0) (pa_cons (pe_op op_cat (pe_callTy call_list_strR (by rfl) T.z_list (by decide +kernel) (pa_cons pe_str pa_nil)) (pe_lst (pa_cons pe_str (pa_cons pe_str (pa_cons pe_str pa_nil))))) pa_nil))))
      (pss_cons (ps_set (i := 4) sc_l_nearly_name.nd rfl (.inl rfl) (pe_lst (pa_cons (pv 1) (pa_cons (pv 1) (pa_cons (pe_op op_add_str (pe_op op_add_str (pe_slice sl_str (pv 1) po_none (po_some (pv 2))) (pv 3)) (pe_slice sl_str (pv 1) (po_some (pv 2)) po_none)) (pa_cons (pe_op op_add_str (pe_op op_add_str (pe_slice sl_str (pv 1) po_none (po_some (pv 2))) (pv 3)) (pe_slice sl_str (pv 1) (po_some (pe_op op_add (pv 2) pe_int)) po_none)) pa_nil))))))
      (pss_one (ps_ret (pe_call G_l_of (hr.mono (by omega)) (by rfl) T.l_of.g T.l_of.kp T.l_of.b .nil pass0 (pa_cons (pv 0) (pa_cons (pe_op op_cat (pv 4) (pe_lst (pa_cons (pe_op op_rep_str (pv 1) pe_int) (pa_cons (pe_op op_rep_str (pe_slice sl_str (pv 1) po_none (po_some pe_int)) pe_int) (pa_cons (pe_op op_add_str (pv 1) pe_str) (pa_cons (pe_op op_add_str pe_str (pv 1)) (pa_cons pe_str pa_nil))))))) pa_nil))))))))), ?_⟩
  walk_at "wp"
  intro p hp
  refine ⟨B, p, _, rfl, (Ext.new hB hp).bag, .inl (.inl (cut_new hB hp)), by decide, by decide, fun v H1 hm e1 => ?_⟩
  have e1 := (Ext.new hB hp).trans e1
  obtain ⟨n, rfl, n0, n1⟩ : ∃ n : Int, v = .int n ∧ 1 ≤ n ∧ n ≤ 10 := by
    simp only [List.mem_cons, List.not_mem_nil, or_false] at hm
    rcases hm with rfl | rfl | rfl | rfl | rfl | rfl | rfl | rfl <;> exact ⟨_, rfl, by decide, by decide⟩
  clear hm hp
  refine ⟨B, n, rfl, e1.bag, by omega, by omega, fun wd H2 e2 hl _ => ?_⟩
  have e2 := e1.trans e2
  clear e1
  walk_at "wp"
  refine ⟨Nat.le_trans (by omega : wd.length ≤ 10) (by decide), B, _, rfl, e2.bag, by omega, by omega, fun spot H3 e3 s0 s1 => ?_⟩
  have e3 := e2.trans e3
  clear e2
  walk_at "wp"
  refine ⟨by decide, ?_⟩
  intro p1 hp_p1; generalize hh_p1 : upd H3 p1 _ = H4; obtain ⟨x4, f4⟩ := gen_new e3.bag hp_p1 hh_p1; clear hh_p1
  intro p2 hp_p2; generalize hh_p2 : upd H4 p2 _ = H5; obtain ⟨x5, f5⟩ := gen_new x4.bag hp_p2 hh_p2; clear hh_p2
  refine ⟨_, (cut_some (x5.same _ _ f4)).1, by decide, ?_⟩
  intro p3 hp_p3; generalize hh_p3 : upd H5 p3 _ = H6; obtain ⟨x6, f6⟩ := gen_new x5.bag hp_p3 hh_p3; clear hh_p3
  refine ⟨B, p3, _, rfl, x6.bag, .inl (.inl f6), by decide, by decide, fun v H7 hm x7 => ?_⟩
  obtain ⟨odd, rfl, ho⟩ : ∃ odd, v = V.str odd ∧ odd.length ≤ 4 := by
    rcases List.mem_append.mp hm with hm | hm
    · obtain ⟨c, _, rfl⟩ := List.mem_map.mp hm
      exact ⟨_, rfl, by show 1 ≤ 4; decide⟩
    · simp only [List.mem_cons, List.not_mem_nil, or_false] at hm
      rcases hm with rfl | rfl | rfl <;> exact ⟨_, rfl, by decide⟩
  have e7 := e3.trans (x4.trans (x5.trans (x6.trans x7)))
  clear e3 x4 x5 x6 x7 f4 f5 f6 hm
  have a1 := cutS_len wd none (some spot)
  have a2 := cutS_len wd (some spot) none
  have a3 := cutS_len wd (some (spot + 1)) none
  have l1 := app_len (cutS wd none (some spot)) odd
  have l2 := app_len (cutS wd none (some spot) ++ odd) (cutS wd (some spot) none)
  have l3 := app_len (cutS wd none (some spot) ++ odd) (cutS wd (some (spot + 1)) none)
  have l4 := app_len wd (Str.ofString "\n")
  have l5 := app_len (Str.ofString " ") wd
  have n5 : (Str.ofString "\n" : Str).length = 1 := by decide
  have n6 : (Str.ofString " " : Str).length = 1 := by decide
  have n7 : (Str.ofString "" : Str).length = 0 := by decide
  have hw0 : 1 ≤ wd.length := by omega
  have hw1 : wd.length ≤ 10 := by omega
  have c2 : 1 ≤ (cutS wd none (some 2)).length ∧ (cutS wd none (some 2)).length ≤ 2 := by
    unfold cutS
    rw [HT.sIx_none, List.drop_zero, show HT.sIx wd.length wd.length (some 2) = min 2 wd.length from HT.sIx_nat _ _ 2]
    show 1 ≤ (List.toArray _).size ∧ (List.toArray _).size ≤ 2
    rw [List.size_toArray, List.length_take, ← TL.len_tl]
    omega
  have r1 := rep_len wd 3
  have r2 := rep_len (cutS wd none (some 2)) 3000
  have r3 : (repS wd 3).length ≤ 10000 := by rw [r1]; show 3 * _ ≤ _; omega
  have r4 : (repS (cutS wd none (some 2)) 3000).length ≤ 10000 := by rw [r2]; show 3000 * _ ≤ _; omega
  walk_at "wp"
  refine ⟨sl_small (by omega), sl_small (by omega), sl_small (by omega), sl_small (by omega), sl_small (by omega), sl_small (by omega), sl_small (by omega), sl_small (by omega), ?_⟩
  intro q1 hp_q1; generalize hh_q1 : upd H7 q1 _ = H8; obtain ⟨y1, g1⟩ := gen_new e7.bag hp_q1 hh_q1; clear hh_q1
  refine ⟨by decide, by decide, by omega, by omega, sl_small (by omega), by decide, by decide, by omega, by omega, sl_small (by omega), sl_small (by omega), ?_⟩
  intro q2 hp_q2; generalize hh_q2 : upd H8 q2 _ = H9; obtain ⟨y2, g2⟩ := gen_new y1.bag hp_q2 hh_q2; clear hh_q2
  refine ⟨_, (cut_some (y2.same _ _ g1)).1, sl_small (by simp), ?_⟩
  intro q3 hp_q3; generalize hh_q3 : upd H9 q3 _ = H10; obtain ⟨y3, g3⟩ := gen_new y2.bag hp_q3 hh_q3; clear hh_q3
  refine ⟨B, q3, _, rfl, y3.bag, .inl (.inl g3), by simp, by simp, fun v H11 hm y4 => q _ _ (e7.trans (y1.trans (y2.trans (y3.trans y4)))) ?_⟩
  simp only [List.cons_append, List.nil_append, List.mem_cons, List.not_mem_nil, or_false] at hm
  rcases hm with rfl | rfl | rfl | rfl | rfl | rfl | rfl | rfl | rfl <;> exact th_str (by omega)
end
end Kx

set_option Elab.async false
set_option linter.all false
set_option maxRecDepth 100000
set_option maxHeartbeats 4000000
namespace Kx
open PySem PySem.Spec PyProof.Rows L2
local macro_rules | `(tactic| walk_at "wp") => `(tactic| simp only [tSeq, tAsg, tC, tVar, tOp, tUn, rI, rI0, rU, tCB, tCons, tNil, tRet, tRetN, tDrop, tLst, tTup, tIf_eq, tIfS_eq, ifk_t, ifk_f, iek_t, iek_f, tTest, tB, tAnd, tOr, tNot, tAndV, tOrV, tNotV, tNext, tSl, rSlL, tPart, tNoPart, gName, gTup, gCons, gNil, gSub, rSetL, tCall, iList, iTup, iRng1, iRng2, rIxL, rIxT, rEq, rNe, scal_ii, scal_bb, scal_ss, scal_nx, scal_xn, RZ.iZipA, rIsiF, rIsiFT, vty_non, vty_bl, vty_int, vty_str, isa_list_list, isa_list_tuple, isa_list_bool, isa_list_int, isa_list_str, isa_tuple_list, isa_tuple_tuple, isa_tuple_bool, isa_tuple_int, isa_tuple_str, isa_dict_list, isa_dict_tuple, isa_dict_bool, isa_dict_int, isa_dict_str, isa_bool_list, isa_bool_tuple, isa_bool_bool, isa_bool_int, isa_bool_str, isa_int_list, isa_int_tuple, isa_int_bool, isa_int_int, isa_int_str, isa_str_list, isa_str_tuple, isa_str_bool, isa_str_int, isa_str_str, isa_non_list, isa_non_tuple, isa_non_bool, isa_non_int, isa_non_str, kc_bool, kc_int, kc_str, kc_list, kc_tuple, upd_same, HO.tup.injEq, HO.lst.injEq, V.ty.injEq, Bool.or_true, Bool.true_or, Bool.or_false, Bool.false_or, sz_0, sz_1, sz_2, sz_3, sz_4, sz_5, sz_6, sz_7, sz_8, sz_9, sz_10, sz_11, sz_12, sz_13, decide_true, decide_false, C8.tCut, tBM, tBM0, rAppend, rTupU, rCatU, rSlU, rRepT, rRep, rCat, rIsiG, kn_non, kn_bl, kn_int, kn_str, tChain, tMkV, exists_eq, tPar, tCallN,  tDisp, tPairs, rSlS, rLenS, rLenV, rListOf, rTupOf, tM0, tM1, iStr, wipe, tYes, tFor_eq, tLc_eq, L2.start, cxOf, Cx.nox, Cx.wish, List.map_cons, List.map_nil, List.length_cons, List.length_nil, List.replicate, List.cons_append, List.nil_append, List.getElem?_cons_zero, List.getElem?_cons_succ, List.set_cons_zero, List.set_cons_succ, Option.some.injEq, and_assoc, exists_and_left, exists_and_right, exists_eq_left', exists_eq_left, exists_eq, exists_eq', true_and, and_true, Nat.reduceSub, Nat.reduceAdd, V.int.injEq, V.ref.injEq, V.bl.injEq, V.str.injEq, List.cons.injEq, decide_eq_true_eq, reduceCtorEq, false_or, or_false, and_false, false_and, exists_false, exists_const, if_true, if_false, Bool.true_eq_false, Bool.false_eq_true, ite_true, ite_false, Bool.not_true, Bool.not_false, decide_eq_false_iff_not, ne_eq])

section
variable {P : Program} {w : World} {K : PySem.W.Frag} {mg : Str → Option Value} {base : Heap}
def sp_rowlike (K : PySem.W.Frag) : Sp := fun vs H Q _ => ∃ (B : BagId) (n k : Int), vs = [.ref B.b, .int n, .int k] ∧ Bag B H ∧ 0 ≤ n ∧ n ≤ 20 ∧ (k = 2 ∨ k = 3) ∧ ∀ v H', Ext B H H' → Th K (cut B.b H') v → Q v H'
theorem ok_odd_row (T : Txt K mg) : FnOk P w K mg base CX0 4 T.l_odd_row.f T.l_odd_row.d ["_law_bag_here", "_law_n", "_law_base"] (sp_rowlike K) := by
  have G_l_draw : FnOk P w K mg base CX0 1 T.l_draw.f T.l_draw.d ["_law_bag_here", "_law_size"] sp_draw := ok_draw T
  have G_l_of : FnOk P w K mg base CX0 2 T.l_of.f T.l_of.d ["_law_bag_here", "_law_things"] (sp_of K) := ok_of T
  have G_l_row : FnOk P w K mg base CX0 3 T.l_row.f T.l_row.d ["_law_bag_here", "_law_n", "_law_base"] (sp_row K) := ok_row T
  refine T.l_odd_row.F.ok sc_l_odd_row (fun vs H Q E h => ?_) (fun cdv A outer s H vs Q E hr h => ?_)
  · obtain ⟨B, n, k, rfl, _⟩ := h
    rfl
  obtain ⟨B, n, k, rfl, hB, hn0, hn1, hk, q⟩ := h
  refine ⟨_, (pss_cons (ps_set (i := 3) sc_l_odd_row.nd rfl (.inl rfl) (pe_callTy call_list_of (by rfl) T.z_list (by decide +kernel) (pa_cons (pe_call G_l_row (hr.mono (by omega)) (by rfl) T.l_row.g T.l_row.kp T.l_row.b .nil pass0 (pa_cons (pv 0) (pa_cons (pv 1) (pa_cons (pv 2) pa_nil)))) pa_nil)))
      (pss_cons (ps_set (i := 4) sc_l_odd_row.nd rfl (.inl rfl) (pe_callTy call_list_of (by rfl) T.z_list (by decide +kernel) (pa_cons (pv 3) pa_nil)))
      (pss_cons (ps_set (i := 5) sc_l_odd_row.nd rfl (.inl rfl) (pe_call G_l_of (hr.mono (by omega)) (by rfl) T.l_of.g T.l_of.kp T.l_of.b .nil pass0 (pa_cons (pv 0) (pa_cons (pe_lst (pa_cons pe_bl (pa_cons pe_bl (pa_cons (pv 2) (pa_cons (pe_op op_sub pe_int pe_int) (pa_cons pe_str (pa_cons (pe_tup (pa_cons pe_int pa_nil)) (pa_cons (pe_lst pa_nil) (pa_cons pe_int pa_nil))))))))) pa_nil))))
      (C8.pss_cut (ps_if (pt_cmpR op_eq (pv 1) pe_int (nomark _))
      (pss_one (ps_expr (pe_bm PySem.F.plainAttrs_list PySem.F.slot_list_append PySem.F.type_list_append mt_append (pv 4) (pa_cons (pv 5) pa_nil))))
      (pss_one (ps_asg (pv 5) (pg_sub (pv 4) (pe_call G_l_draw (hr.mono (by omega)) (by rfl) T.l_draw.g T.l_draw.kp T.l_draw.b .nil pass0 (pa_cons (pv 0) (pa_cons (pv 1) pa_nil))) set_list))))
      (pss_cons (ps_set (i := 6) sc_l_odd_row.nd rfl (.inl rfl) (pe_op op_catU (pe_callTy call_tuple_ofU (by rfl) T.z_tuple (by decide +kernel) (pa_cons (pv 3) pa_nil)) (pe_tup (pa_cons (pe_call G_l_of (hr.mono (by omega)) (by rfl) T.l_of.g T.l_of.kp T.l_of.b .nil pass0 (pa_cons (pv 0) (pa_cons (pe_lst (pa_cons pe_non (pa_cons pe_int (pa_cons pe_int pa_nil)))) pa_nil))) pa_nil))))
      (pss_cons (ps_set (i := 7) sc_l_odd_row.nd rfl (.inl rfl) (pe_ifExp (pt_cmpR op_gt (pv 1) pe_int (nomark _)) (pe_callTy call_tuple_ofU (by rfl) T.z_tuple (by decide +kernel) (pa_cons (pe_slice sl_list (pv 3) (po_some pe_int) po_none) pa_nil)) pe_non))
      (pss_cons (ps_set (i := 8) sc_l_odd_row.nd rfl (.inl rfl) (pe_lst (pa_cons (pv 3) (pa_cons (pv 6) (pa_cons (pv 7) (pa_cons (pe_callTy call_tuple_ofU (by rfl) T.z_tuple (by decide +kernel) (pa_cons (pv 4) pa_nil)) (pa_cons (pe_callTy call_tuple_ofU (by rfl) T.z_tuple (by decide +kernel) (pa_cons (pv 4) pa_nil)) (pa_cons pe_non (pa_cons pe_str (pa_cons pe_int (pa_cons pe_bl (pa_cons (pe_lst (pa_cons (pe_callTy call_tuple_ofU (by rfl) T.z_tuple (by decide +kernel) (pa_cons (pv 3) pa_nil)) pa_nil)) pa_nil))))))))))))
      (pss_one (ps_ret (pe_call G_l_of (hr.mono (by omega)) (by rfl) T.l_of.g T.l_of.kp T.l_of.b .nil pass0 (pa_cons (pv 0) (pa_cons (pe_op op_cat (pv 8) (pe_lst (pa_cons (pe_op op_repT (pe_tup (pa_cons (pe_callTy call_tuple_ofU (by rfl) T.z_tuple (by decide +kernel) (pa_cons (pv 3) pa_nil)) pa_nil)) pe_int) pa_nil))) pa_nil)))))))))))), ?_⟩
  walk_at "wp"
  refine ⟨B, n, k, rfl, hB, hn0, by omega, hk, fun t r H1 ht0 e1 ht hl hro => ?_⟩
  walk_at "wp"
  refine ⟨rowV r, .inr (.inl (.inl (cut_some ht).1)), ?_⟩
  intro l hp_l; generalize hh_l : upd H1 l _ = H2; obtain ⟨e2, fl⟩ := gen_new e1.bag hp_l hh_l; clear hh_l
  refine ⟨_, .inl (.inl (.inl (cut_some fl).1)), ?_⟩
  intro bt hp_bt; generalize hh_bt : upd H2 bt _ = H3; obtain ⟨e3, fb⟩ := gen_new e2.bag hp_bt hh_bt; clear hh_bt
  intro p1 hp_p1; generalize hh_p1 : upd H3 p1 _ = H4; obtain ⟨e4, f1⟩ := gen_new e3.bag hp_p1 hh_p1; clear hh_p1
  intro p2 hp_p2; generalize hh_p2 : upd H4 p2 _ = H5; obtain ⟨e5, f2⟩ := gen_new e4.bag hp_p2 hh_p2; clear hh_p2
  intro p3 hp_p3; generalize hh_p3 : upd H5 p3 _ = H6; obtain ⟨e6, f3⟩ := gen_new e5.bag hp_p3 hh_p3; clear hh_p3
  refine ⟨B, p3, _, rfl, e6.bag, .inl (.inl f3), by simp, by simp, fun odd H7 hm e7 => ?_⟩
  have hodd : Th K (cut B.b H7) odd := by
    simp only [List.mem_cons, List.not_mem_nil, or_false] at hm
    rcases hm with rfl | rfl | rfl | rfl | rfl | rfl | rfl | rfl
    · exact th_bl
    · exact th_bl
    · exact th_int
    · exact th_int
    · exact th_str (by decide)
    · exact th_tup (e7.same _ _ (e6.same _ _ (e5.same _ _ f1))) (by decide) fun x hx => by cases List.mem_singleton.mp hx; exact th_int.1
    · exact th_lst (e7.same _ _ (e6.same _ _ f2))
    · exact th_int
  have fl7 := e7.same _ _ (e6.same _ _ (e5.same _ _ (e4.same _ _ (e3.same _ _ fl))))
  have fb7 := e7.same _ _ (e6.same _ _ (e5.same _ _ (e4.same _ _ fb)))
  have nlb : l ≠ bt := ne_of_none (cut_some fl).1 hp_bt
  have hbt : H bt = none := (e1.trans e2).free hp_bt
  have e7' := e1.trans (e2.trans (e3.trans (e4.trans (e5.trans (e6.trans e7)))))
  have hbB : bt ≠ B.b := e2.bag.fresh hp_bt
  have akr : ∀ x ∈ rowV r, Ak K (cut B.b H7) x := ak_row
  have hrl : (rowV r).length = r.length := List.length_map _
  clear e1 e2 e3 e4 e5 e6 e7 fl fb f1 f2 f3 hm hp_l hp_bt hp_p1 hp_p2 hp_p3 ht0 ht
  obtain ⟨Mid, hMid⟩ : ∃ M : L2.St → Hp → Prop, ∀ σ H2, M σ H2 ↔ ∃ (bs : List V), σ = [some (.ref B.b), some (.int n), some (.int k), some (.ref l), some (.ref bt), some odd, none, none, none] ∧ Ext B H H2 ∧ cut B.b H2 l = some (.lst (rowV r)) ∧ cut B.b H2 bt = some (.lst bs) ∧ bs.length ≤ 30 ∧ ∀ x ∈ bs, Ak K (cut B.b H2) x := ⟨_, fun _ _ => Iff.rfl⟩
  refine ⟨Mid, ifk (fun c => ?_) (fun c => ?_), fun σ H8 h => ?_⟩
  · walk_at "wp"
    have hb := (cut_some fb7).1
    refine ⟨.inl ⟨rfl, _, .inl (.inl hb)⟩, _, hb, Nat.lt_of_le_of_lt (by omega : (rowV r).length ≤ 100) (by decide), ?_⟩
    refine (hMid _ _).mpr ⟨_, rfl, e7'.mut hB hbt, ?_, by rw [cut_upd hbB, upd_same], by rw [List.length_append, List.length_singleton]; omega, fun x hx => ?_⟩
    · rw [cut_upd hbB, upd_ne nlb]
      exact fl7
    · rw [cut_upd hbB]
      refine Ak.up fb7 ?_
      rcases List.mem_append.mp hx with hx | hx
      · exact akr x hx
      · cases List.mem_singleton.mp hx
        exact hodd.1
  · walk_at "wp"
    refine ⟨B, n, rfl, e7'.bag, by omega, by omega, fun j H8 e8 j0 j1 => ?_⟩
    walk_at "wp"
    have fb8 := e8.same _ _ fb7
    have fl8 := e8.same _ _ fl7
    have e9 := e7'.trans e8
    have hj : j.toNat < (rowV r).length := by omega
    refine ⟨_, (cut_some fb8).1, j.toNat, ?_, ?_⟩
    · unfold ixN
      rw [if_pos j0, if_pos (by omega)]
    · refine (hMid _ _).mpr ⟨_, rfl, e9.mut hB hbt, ?_, by rw [cut_upd hbB, upd_same], by rw [List.length_set]; omega, fun x hx => ?_⟩
      · rw [cut_upd hbB, upd_ne nlb]
        exact fl8
      · rw [cut_upd hbB]
        refine Ak.up fb8 ?_
        rcases List.mem_or_eq_of_mem_set hx with hx | rfl
        · exact (akr x hx).same e8.same
        · exact (hodd.same e8.same).1
  · obtain ⟨bs, rfl, e8, fl8, fb8, bl, bk⟩ := (hMid _ _).mp h
    clear h hMid fl7 fb7 e7' akr
    walk_at "wp"
    refine ⟨_, .inl (cut_some fl8).1, fun t1 H9 s9 g1 => ?_⟩
    have e9 := e8.trans (.of_same e8.bag s9)
    have b9 := e9.bag
    intro p4 hp_p4; generalize hh_p4 : upd H9 p4 _ = H10; obtain ⟨e10, f4⟩ := gen_new b9 hp_p4 hh_p4; clear hh_p4
    refine ⟨B, p4, _, rfl, e10.bag, .inl (.inl f4), by decide, by decide, fun v H11 hm e11 => ?_⟩
    walk_at "wp"
    have kv : Th K (cut B.b H11) v := by
      simp only [List.mem_cons, List.not_mem_nil, or_false] at hm
      rcases hm with rfl | rfl | rfl
      · exact th_non
      · exact th_int
      · exact th_int
    intro q1 hp_q1; generalize hh_q1 : upd H11 q1 _ = H12; obtain ⟨x12, g12⟩ := gen_new e11.bag hp_q1 hh_q1; clear hh_q1
    have g1c := x12.same _ _ (e11.same _ _ (e10.same _ _ (cut_tup b9 g1)))
    refine ⟨_, (cut_some g1c).1, by omega, fun t2 H13 s13 g2 => ?_⟩
    have x13 : Ext B H12 H13 := .of_same x12.bag s13
    have b13 := x13.bag
    have g2c := cut_tup b13 g2
    have e13 := e9.trans (e10.trans (e11.trans (x12.trans x13)))
    have y13 := (Ext.of_same e8.bag s9).trans (e10.trans (e11.trans (x12.trans x13)))
    have fl13 := y13.same _ _ fl8
    have fb13 := y13.same _ _ fb8
    have bk13 : ∀ x ∈ bs, Ak K (cut B.b H13) x := fun x hx => (bk x hx).same y13.same
    have kt2 : Th K (cut B.b H13) (.ref t2) := th_tup g2c (by rw [List.length_append, List.length_singleton]; omega) fun x hx => by
      rcases List.mem_append.mp hx with hx | hx
      · exact ak_row x hx
      · cases List.mem_singleton.mp hx
        exact (kv.same (x12.trans x13).same).1
    clear e8 e9 e10 e11 x12 x13 g12 g1c y13 fl8 fb8 bk hm kv hp_p4 hp_q1 s9 s13 g1 g2 f4 b9
    refine iek_ext (fun v H' => Ext B H13 H' ∧ Th K (cut B.b H') v) (fun c R k1 => ?_) (fun c R k1 => ?_) (fun x H14 hx => ?_)
    · walk_at "wp"
      refine ⟨_, .inl (.inl (cut_some fl13).1), ?_⟩
      intro q2 hp_q2; generalize hh_q2 : upd H13 q2 _ = H14; obtain ⟨x14, g14⟩ := gen_new b13 hp_q2 hh_q2; clear hh_q2
      refine fun p H15 s15 g15 => k1 _ _ ⟨x14.trans (.of_same x14.bag s15), ?_⟩
      have x15 : Ext B H14 H15 := .of_same x14.bag s15
      refine th_tup (cut_tup x15.bag g15) ?_ fun x hx => ?_
      · have := cutV_length (rowV r) (some 1) none
        omega
      · unfold cutV at hx
        exact ak_row x (List.mem_of_mem_drop (List.mem_of_mem_take hx))
    · walk_at "wp"
      exact k1 _ _ ⟨.refl b13, th_non⟩
    · obtain ⟨x14, kx⟩ := hx
      have fb14 := x14.same _ _ fb13
      have fl14 := x14.same _ _ fl13
      refine ⟨_, .inl (cut_some fb14).1, fun p H15 s15 g15 => ?_⟩
      have x15 : Ext B H14 H15 := .of_same x14.bag s15
      have g15c := cut_tup x15.bag g15
      refine ⟨_, .inl (cut_some (x15.same _ _ fb14)).1, fun p' H16 s16 g16 => ?_⟩
      have x16 : Ext B H15 H16 := .of_same x15.bag s16
      have g16c := cut_tup x16.bag g16
      refine ⟨_, .inl (cut_some (x16.same _ _ (x15.same _ _ fl14))).1, fun p'' H17 s17 g17 => ?_⟩
      have x17 : Ext B H16 H17 := .of_same x16.bag s17
      intro r1 hp_r1; generalize hh_r1 : upd H17 r1 _ = H18; obtain ⟨x18, g18⟩ := gen_new x17.bag hp_r1 hh_r1; clear hh_r1
      intro r2 hp_r2; generalize hh_r2 : upd H18 r2 _ = H19; obtain ⟨x19, g19⟩ := gen_new x18.bag hp_r2 hh_r2; clear hh_r2
      have y19 := x15.trans (x16.trans (x17.trans (x18.trans x19)))
      have fl19 := y19.same _ _ fl14
      refine ⟨_, .inl (cut_some fl19).1, fun r3 H20 s20 g20 => ?_⟩
      have x20 : Ext B H19 H20 := .of_same x19.bag s20
      have g20c := cut_tup x20.bag g20
      intro r4 hp_r4; generalize hh_r4 : upd H20 r4 _ = H21; obtain ⟨x21, g21⟩ := gen_new x20.bag hp_r4 hh_r4; clear hh_r4
      refine ⟨_, .inl (.inl (cut_some g21).1), by simp, by decide, by decide, by simp, ?_⟩
      intro r5 hp_r5; generalize hh_r5 : upd H21 r5 _ = H22; obtain ⟨x22, g22⟩ := gen_new x21.bag hp_r5 hh_r5; clear hh_r5
      intro r6 hp_r6; generalize hh_r6 : upd H22 r6 _ = H23; obtain ⟨x23, g23⟩ := gen_new x22.bag hp_r6 hh_r6; clear hh_r6
      have y23 := x20.trans (x21.trans (x22.trans x23))
      refine ⟨_, (cut_some (y23.same _ _ g19)).1, sl_small (by simp), ?_⟩
      intro r7 hp_r7; generalize hh_r7 : upd H23 r7 _ = H24; obtain ⟨x24, g24⟩ := gen_new x23.bag hp_r7 hh_r7; clear hh_r7
      have z24 := y23.trans x24
      refine ⟨B, r7, _, rfl, x24.bag, .inl (.inl g24), by simp, by simp, fun v' H25 hm x25 => q _ _ (e13.trans (x14.trans (y19.trans (z24.trans x25)))) ?_⟩
      have z25 := z24.trans x25
      have bk14 : ∀ x ∈ bs, Ak K (cut B.b H14) x := fun x hx => (bk13 x hx).same x14.same
      refine Th.same x25.same ?_
      simp only [List.cons_append, List.nil_append, List.mem_cons, List.not_mem_nil, or_false] at hm
      rcases hm with rfl | rfl | rfl | rfl | rfl | rfl | rfl | rfl | rfl | rfl | rfl
      · exact th_lst (z24.same _ _ fl19)
      · exact kt2.same (x14.trans (y19.trans z24)).same
      · exact kx.same (y19.trans z24).same
      · exact th_tup ((x16.trans (x17.trans (x18.trans (x19.trans z24)))).same _ _ g15c) (by omega) fun x hx => (bk14 x hx).same (y19.trans z24).same
      · exact th_tup ((x17.trans (x18.trans (x19.trans z24))).same _ _ g16c) (by omega) fun x hx => (bk14 x hx).same (y19.trans z24).same
      · exact th_non
      · exact th_str (by decide)
      · exact th_int
      · exact th_bl
      · exact th_lst ((x19.trans z24).same _ _ g18)
      · have w1 := (x23.trans x24).same _ _ g22
        have w2 := (x21.trans (x22.trans (x23.trans x24))).same _ _ g20c
        refine th_tup w1 (by simp) fun x hx => ?_
        have hx' : x = .ref r3 := by
          have : x ∈ [V.ref r3, V.ref r3] := hx
          simpa using this
        subst hx'
        exact (th_tup w2 (by omega) fun y hy => ak_row y hy).1
end
end Kx

set_option Elab.async false
set_option linter.all false
set_option maxRecDepth 100000
set_option maxHeartbeats 4000000
namespace Kx
open PySem PySem.Spec PyProof.Rows L2
local macro_rules | `(tactic| walk_at "wp") => `(tactic| simp only [tSeq, tAsg, tC, tVar, tOp, tUn, rI, rI0, rU, tCB, tCons, tNil, tRet, tRetN, tDrop, tLst, tTup, tIf_eq, tIfS_eq, ifk_t, ifk_f, iek_t, iek_f, tTest, tB, tAnd, tOr, tNot, tAndV, tOrV, tNotV, tNext, tSl, rSlL, tPart, tNoPart, gName, gTup, gCons, gNil, gSub, rSetL, tCall, iList, iTup, iRng1, iRng2, rIxL, rIxT, rEq, rNe, scal_ii, scal_bb, scal_ss, scal_nx, scal_xn, RZ.iZipA, rIsiF, rIsiFT, vty_non, vty_bl, vty_int, vty_str, isa_list_list, isa_list_tuple, isa_list_bool, isa_list_int, isa_list_str, isa_tuple_list, isa_tuple_tuple, isa_tuple_bool, isa_tuple_int, isa_tuple_str, isa_dict_list, isa_dict_tuple, isa_dict_bool, isa_dict_int, isa_dict_str, isa_bool_list, isa_bool_tuple, isa_bool_bool, isa_bool_int, isa_bool_str, isa_int_list, isa_int_tuple, isa_int_bool, isa_int_int, isa_int_str, isa_str_list, isa_str_tuple, isa_str_bool, isa_str_int, isa_str_str, isa_non_list, isa_non_tuple, isa_non_bool, isa_non_int, isa_non_str, kc_bool, kc_int, kc_str, kc_list, kc_tuple, upd_same, HO.tup.injEq, HO.lst.injEq, V.ty.injEq, Bool.or_true, Bool.true_or, Bool.or_false, Bool.false_or, sz_0, sz_1, sz_2, sz_3, sz_4, sz_5, sz_6, sz_7, sz_8, sz_9, sz_10, sz_11, sz_12, sz_13, decide_true, decide_false, C8.tCut, tBM, tBM0, rAppend, rTupU, rCatU, rSlU, rRepT, rRep, rCat, rIsiG, kn_non, kn_bl, kn_int, kn_str, tChain, tMkV, exists_eq, tPar, tCallN,  tDisp, tPairs, rSlS, rLenS, rLenV, rListOf, rTupOf, tM0, tM1, iStr, wipe, tYes, tFor_eq, tLc_eq, L2.start, cxOf, Cx.nox, Cx.wish, List.map_cons, List.map_nil, List.length_cons, List.length_nil, List.replicate, List.cons_append, List.nil_append, List.getElem?_cons_zero, List.getElem?_cons_succ, List.set_cons_zero, List.set_cons_succ, Option.some.injEq, and_assoc, exists_and_left, exists_and_right, exists_eq_left', exists_eq_left, exists_eq, exists_eq', true_and, and_true, Nat.reduceSub, Nat.reduceAdd, V.int.injEq, V.ref.injEq, V.bl.injEq, V.str.injEq, List.cons.injEq, decide_eq_true_eq, reduceCtorEq, false_or, or_false, and_false, false_and, exists_false, exists_const, if_true, if_false, Bool.true_eq_false, Bool.false_eq_true, ite_true, ite_false, Bool.not_true, Bool.not_false, decide_eq_false_iff_not, ne_eq])

section
variable {P : Program} {w : World} {K : PySem.W.Frag} {mg : Str → Option Value} {base : Heap}
theorem ok_deep (T : Txt K mg) : FnOk P w K mg base CX0 5 T.l_deep.f T.l_deep.d ["_law_bag_here"] (sp_thing K) := by
  have G_l_draw : FnOk P w K mg base CX0 1 T.l_draw.f T.l_draw.d ["_law_bag_here", "_law_size"] sp_draw := ok_draw T
  have G_l_of : FnOk P w K mg base CX0 2 T.l_of.f T.l_of.d ["_law_bag_here", "_law_things"] (sp_of K) := ok_of T
  have G_l_any : FnOk P w K mg base CX0 4 T.l_any.f T.l_any.d ["_law_bag_here", "_law_deep_here"] (sp_anyT K 1) := anyT_step T (m := 1) (k := 3) (k' := 3) (by decide) (by decide) (anyT_step T (m := 0) (k := 2) (k' := 0) (by decide) (by decide) (none_left fun _ _ _ _ h => h))
  refine T.l_deep.F.ok sc_l_deep (fun vs H Q E h => ?_) (fun cdv A outer s H vs Q E hr h => ?_)
  · obtain ⟨B, rfl, _⟩ := h
    rfl
  obtain ⟨B, rfl, hB, q⟩ := h
  refine ⟨_, (pss_cons (ps_set (i := 1) sc_l_deep.nd rfl (.inl rfl) (pe_call G_l_any (hr.mono (by omega)) (by rfl) T.l_any.g T.l_any.kp T.l_any.b .nil pass0 (pa_cons (pv 0) (pa_cons pe_int pa_nil))))
      (pss_cons (ps_for PassesOwn.never rfl (pi_range1 (by rfl) T.z_range (pa_cons (pe_op op_add pe_int (pe_call G_l_draw (hr.mono (by omega)) (by rfl) T.l_draw.g T.l_draw.kp T.l_draw.b .nil pass0 (pa_cons (pv 0) (pa_cons pe_int pa_nil)))) pa_nil)) (pg_name (i := 2) sc_l_deep.nd rfl (.inl rfl))
      (pss_one (ps_set (i := 1) sc_l_deep.nd rfl (.inl rfl) (pe_call G_l_of (hr.mono (by omega)) (by rfl) T.l_of.g T.l_of.kp T.l_of.b .nil pass0 (pa_cons (pv 0) (pa_cons (pe_lst (pa_cons (pe_tup (pa_cons (pv 1) pa_nil)) (pa_cons (pe_lst (pa_cons (pv 1) pa_nil)) (pa_cons (pe_tup (pa_cons pe_int (pa_cons (pv 1) pa_nil))) (pa_cons (pe_disp (pps_cons pe_str (pv 1) pps_nil) (by rfl) (by rfl) (fun z => by cases z) (by decide)) pa_nil))))) pa_nil))))))
      (pss_one (ps_ret (pv 1))))), ?_⟩
  walk_at "wp"
  refine ⟨B, rfl, hB, fun v H1 e1 hv => ?_⟩
  refine ⟨B, _, rfl, e1.bag, by decide, by decide, fun j H2 e2 j0 j1 => ?_⟩
  walk_at "wp"
  refine ⟨by omega, by omega, ?_⟩
  obtain ⟨Pv, hPv⟩ : ∃ M : L2.St → Hp → Prop, ∀ σ H2, M σ H2 ↔ ∃ (v : V) (z : Option V), σ = [some (.ref B.b), some v, z] ∧ Ext B H H2 ∧ Th K (cut B.b H2) v := ⟨_, fun _ _ => Iff.rfl⟩
  refine lp_it (walk_range (n := (1 + j).toNat)) (fun _ => Pv) ((hPv _ _).mpr ⟨v, none, rfl, e1.trans e2, hv.same e2.same⟩) (fun _ _ _ _ _ => trivial) (fun i x σ H3 H4 hi h hy => ?_) (fun σ H3 h => ?_)
  · obtain ⟨v, z, rfl, e3, kv⟩ := (hPv _ _).mp h
    obtain ⟨rfl, rfl⟩ := hy
    walk_at "wp"
    intro p1 hp_p1; generalize hh_p1 : upd H4 p1 _ = H5; obtain ⟨x5, g5⟩ := gen_new e3.bag hp_p1 hh_p1; clear hh_p1
    intro p2 hp_p2; generalize hh_p2 : upd H5 p2 _ = H6; obtain ⟨x6, g6⟩ := gen_new x5.bag hp_p2 hh_p2; clear hh_p2
    intro p3 hp_p3; generalize hh_p3 : upd H6 p3 _ = H7; obtain ⟨x7, g7⟩ := gen_new x6.bag hp_p3 hh_p3; clear hh_p3
    intro p4 hp4
    refine ⟨[(.inr "a", v)], rfl, by simp, ?_⟩
    rw [upd_upd]
    have x8 := Ext.new (o := .dK (mergeK [] [(.inr "a", v)])) x7.bag hp4
    have g8 := cut_new (o := .dK (mergeK [] [(.inr "a", v)])) x7.bag hp4
    generalize upd H7 p4 (HO.dK (mergeK [] [(Sum.inr (Str.ofString "a"), v)])) = H8 at x8 g8 ⊢
    intro p5 hp_p5; generalize hh_p5 : upd H8 p5 _ = H9; obtain ⟨x9, g9⟩ := gen_new x8.bag hp_p5 hh_p5; clear hh_p5
    refine ⟨B, p5, _, rfl, x9.bag, .inl (.inl g9), by simp, by simp, fun v' H10 hm x10 => ?_⟩
    have y10 := x8.trans (x9.trans x10)
    refine (hPv _ _).mpr ⟨v', _, rfl, e3.trans (x5.trans (x6.trans (x7.trans y10))), ?_⟩
    have k10 := kv.same (x5.trans (x6.trans (x7.trans y10))).same
    simp only [List.mem_cons, List.not_mem_nil, or_false] at hm
    rcases hm with rfl | rfl | rfl | rfl
    · exact th_tup ((x6.trans (x7.trans y10)).same _ _ g5) (by simp) fun x hx => by cases List.mem_singleton.mp hx; exact k10.1
    · exact th_lst ((x7.trans y10).same _ _ g6)
    · refine th_tup (y10.same _ _ g7) (by simp) fun x hx => ?_
      simp only [List.mem_cons, List.not_mem_nil, or_false] at hx
      rcases hx with rfl | rfl
      · exact th_int.1
      · exact k10.1
    · exact th_dK ((x9.trans x10).same _ _ g8)
  · obtain ⟨v, z, rfl, e3, kv⟩ := (hPv _ _).mp h
    walk_at "wp"
    exact q _ _ e3 kv
/-! ### the exception's own __init__ -/
abbrev s_IO : Stmt := inClass (topS 10) 0
theorem sc_IO : FnScope ["self"] ["self"] (defScope s_IO) := ⟨rfl, rfl, rfl, by decide +kernel, rfl, by decide +kernel, by decide +kernel⟩
def sp_IO (C : Addr) : Sp := fun vs H Q _ => ∃ a : Addr, vs = [.ref a] ∧ H a = some (exo a C none) ∧ ∀ dx, H dx = none → dx ≠ a → Q .non (upd (upd H dx (exd dx [("code", .str "InvalidOrder")])) a (exo a C (some dx)))
theorem ok_IO (T : Txt K mg) : FnOk P w K mg base CX0 1 T.IO_f T.IO_d ["self"] (sp_IO T.IO_C) := by
  refine T.IO_F.ok sc_IO (fun vs H Q E h => ?_) (fun cdv A outer s H vs Q E hr h => ?_)
  · obtain ⟨a, rfl, _⟩ := h
    rfl
  obtain ⟨a, rfl, ha, q⟩ := h
  refine ⟨_, pss_one (ps_ost (pv 0) pe_str), ?_⟩
  refine ⟨_, rfl, a, T.IO_C, rfl, T.IO_K.oe, T.IO_n, .inl ⟨ha, fun dx h1 h2 => q dx h1 h2⟩⟩
theorem ok_nearly_row (T : Txt K mg) : FnOk P w K mg base CX0 5 T.l_nearly_row.f T.l_nearly_row.d ["_law_bag_here", "_law_n", "_law_base"] (sp_rowlike K) := by
  have G_l_draw : FnOk P w K mg base CX0 1 T.l_draw.f T.l_draw.d ["_law_bag_here", "_law_size"] sp_draw := ok_draw T
  have G_l_of : FnOk P w K mg base CX0 2 T.l_of.f T.l_of.d ["_law_bag_here", "_law_things"] (sp_of K) := ok_of T
  have G_l_row : FnOk P w K mg base CX0 3 T.l_row.f T.l_row.d ["_law_bag_here", "_law_n", "_law_base"] (sp_row K) := ok_row T
  have G_l_odd_row : FnOk P w K mg base CX0 4 T.l_odd_row.f T.l_odd_row.d ["_law_bag_here", "_law_n", "_law_base"] (sp_rowlike K) := ok_odd_row T
  have G_l_any : FnOk P w K mg base CX0 4 T.l_any.f T.l_any.d ["_law_bag_here", "_law_deep_here"] (sp_anyT K 1) := anyT_step T (m := 1) (k := 3) (k' := 3) (by decide) (by decide) (anyT_step T (m := 0) (k := 2) (k' := 0) (by decide) (by decide) (none_left fun _ _ _ _ h => h))
  refine T.l_nearly_row.F.ok sc_l_nearly_row (fun vs H Q E h => ?_) (fun cdv A outer s H vs Q E hr h => ?_)
  · obtain ⟨B, n, k, rfl, _⟩ := h
    rfl
  obtain ⟨B, n, k, rfl, hB, hn0, hn1, hk, q⟩ := h
  refine ⟨_, (pss_cons (ps_set (i := 3) sc_l_nearly_row.nd rfl (.inl rfl) (pe_call G_l_row (hr.mono (by omega)) (by rfl) T.l_row.g T.l_row.kp T.l_row.b .nil pass0 (pa_cons (pv 0) (pa_cons (pv 1) (pa_cons (pv 2) pa_nil)))))
      (pss_cons (ps_set (i := 4) sc_l_nearly_row.nd rfl (.inl rfl) (pe_call G_l_row (hr.mono (by omega)) (by rfl) T.l_row.g T.l_row.kp T.l_row.b .nil pass0 (pa_cons (pv 0) (pa_cons (pe_call G_l_draw (hr.mono (by omega)) (by rfl) T.l_draw.g T.l_draw.kp T.l_draw.b .nil pass0 (pa_cons (pv 0) (pa_cons pe_int pa_nil))) (pa_cons (pe_op op_sub pe_int (pv 2)) pa_nil)))))
      (pss_cons (ps_set (i := 5) sc_l_nearly_row.nd rfl (.inl rfl) (pe_call G_l_draw (hr.mono (by omega)) (by rfl) T.l_draw.g T.l_draw.kp T.l_draw.b .nil pass0 (pa_cons (pv 0) (pa_cons (pe_op op_add (pe_callB call_len_seq (by rfl) T.z_len PySem.boot_len (pa_cons (pv 3) pa_nil)) pe_int) pa_nil))))
      (pss_cons (ps_set (i := 6) sc_l_nearly_row.nd rfl (.inl rfl) (pe_call G_l_of (hr.mono (by omega)) (by rfl) T.l_of.g T.l_of.kp T.l_of.b .nil pass0 (pa_cons (pv 0) (pa_cons (pe_lst (pa_cons pe_bl (pa_cons pe_bl (pa_cons (pv 2) (pa_cons (pe_op op_sub pe_int pe_int) (pa_cons pe_str (pa_cons pe_str (pa_cons (pe_tup pa_nil) (pa_cons (pe_tup (pa_cons pe_int pa_nil)) (pa_cons (pe_lst pa_nil) (pa_cons (pe_lst (pa_cons pe_int pa_nil)) (pa_cons (pe_op op_pow pe_int pe_int) (pa_cons pe_int (pa_cons (pe_call G_l_any (hr.mono (by omega)) (by rfl) T.l_any.g T.l_any.kp T.l_any.b .nil pass0 (pa_cons (pv 0) (pa_cons pe_int pa_nil))) pa_nil)))))))))))))) pa_nil))))
      (pss_cons (ps_set (i := 7) sc_l_nearly_row.nd rfl (.inl rfl) (pe_op op_catU (pe_op op_catU (pe_slice sl_tupU (pv 3) po_none (po_some (pv 5))) (pe_tup (pa_cons (pv 6) pa_nil))) (pe_slice sl_tupU (pv 3) (po_some (pe_op op_add (pv 5) pe_int)) po_none)))
      (pss_cons (ps_set (i := 8) sc_l_nearly_row.nd rfl (.inl rfl) (pe_lst (pa_cons (pv 3) (pa_cons (pv 3) (pa_cons (pv 4) (pa_cons (pe_callTy call_list_of (by rfl) T.z_list (by decide +kernel) (pa_cons (pv 3) pa_nil)) (pa_cons (pv 7) (pa_cons (pv 7) (pa_cons (pe_op op_catU (pv 3) (pe_tup (pa_cons pe_non pa_nil))) (pa_cons (pe_slice sl_tupU (pv 3) (po_some pe_int) po_none) (pa_cons (pe_tup (pa_cons (pv 3) pa_nil)) pa_nil)))))))))))
      (pss_one (ps_ret (pe_call G_l_of (hr.mono (by omega)) (by rfl) T.l_of.g T.l_of.kp T.l_of.b .nil pass0 (pa_cons (pv 0) (pa_cons (pe_op op_cat (pv 8) (pe_lst (pa_cons (pe_call G_l_odd_row (hr.mono (by omega)) (by rfl) T.l_odd_row.g T.l_odd_row.kp T.l_odd_row.b .nil pass0 (pa_cons (pv 0) (pa_cons (pv 1) (pa_cons (pv 2) pa_nil)))) pa_nil))) pa_nil))))))))))), ?_⟩
  walk_at "wp"
  refine ⟨B, n, k, rfl, hB, hn0, by omega, hk, fun t r H1 ht0 e1 ht hl hro => ?_⟩
  refine ⟨B, _, rfl, e1.bag, by decide, by decide, fun n2 H2 e2 m0 m1 => ?_⟩
  walk_at "wp"
  have hk5 : 5 - k = 2 ∨ 5 - k = 3 := by omega
  refine ⟨B, n2, 5 - k, rfl, e2.bag, m0, by omega, hk5, fun t2 r2 H3 ht20 e3 ht2 hl2 hro2 => ?_⟩
  walk_at "wp"
  have hrl : (rowV r).length = r.length := List.length_map _
  have hrl2 : (rowV r2).length = r2.length := List.length_map _
  have ht3 := (e2.trans e3).same _ _ ht
  refine ⟨rowV r, .inr (.inl (.inl (cut_some ht3).1)), ?_⟩
  refine ⟨B, _, rfl, e3.bag, by omega, by omega, fun spot H4 e4 s0 s1 => ?_⟩
  have b4 := e4.bag
  have ht4 := e4.same _ _ ht3
  have ht24 := e4.same _ _ ht2
  have e4' := e1.trans (e2.trans (e3.trans e4))
  clear e1 e2 e3 e4 ht ht3 ht2 ht0 ht20
  intro p1 hp_p1; generalize hh_p1 : upd H4 p1 _ = H5; obtain ⟨x5, g5⟩ := gen_new b4 hp_p1 hh_p1; clear hh_p1
  intro p2 hp_p2; generalize hh_p2 : upd H5 p2 _ = H6; obtain ⟨x6, g6⟩ := gen_new x5.bag hp_p2 hh_p2; clear hh_p2
  intro p3 hp_p3; generalize hh_p3 : upd H6 p3 _ = H7; obtain ⟨x7, g7⟩ := gen_new x6.bag hp_p3 hh_p3; clear hh_p3
  intro p4 hp_p4; generalize hh_p4 : upd H7 p4 _ = H8; obtain ⟨x8, g8⟩ := gen_new x7.bag hp_p4 hh_p4; clear hh_p4
  refine ⟨⟨by decide, by decide, by decide⟩, B, rfl, x8.bag, fun av H9 x9 kav => ?_⟩
  intro p5 hp_p5; generalize hh_p5 : upd H9 p5 _ = H10; obtain ⟨x10, g10⟩ := gen_new x9.bag hp_p5 hh_p5; clear hh_p5
  refine ⟨B, p5, _, rfl, x10.bag, .inl (.inl g10), by simp, by simp, fun odd H11 hm x11 => ?_⟩
  have y11 := x9.trans (x10.trans x11)
  have kodd : Th K (cut B.b H11) odd := by
    simp only [List.mem_cons, List.not_mem_nil, or_false] at hm
    rcases hm with rfl | rfl | rfl | rfl | rfl | rfl | rfl | rfl | rfl | rfl | rfl | rfl | rfl
    · exact th_bl
    · exact th_bl
    · exact th_int
    · exact th_int
    · exact th_str (by decide)
    · exact th_str (by decide)
    · exact th_tup ((x6.trans (x7.trans (x8.trans y11))).same _ _ g5) (by decide) fun x hx => by cases hx
    · exact th_tup ((x7.trans (x8.trans y11)).same _ _ g6) (by decide) fun x hx => by cases List.mem_singleton.mp hx; exact th_int.1
    · exact th_lst ((x8.trans y11).same _ _ g7)
    · exact th_lst (y11.same _ _ g8)
    · exact th_int
    · exact th_int
    · exact kav.same (x10.trans x11).same
  have z11 := x5.trans (x6.trans (x7.trans (x8.trans y11)))
  have e11 := e4'.trans z11
  have ht11 := z11.same _ _ ht4
  have ht211 := z11.same _ _ ht24
  have b11 := x11.bag
  clear x5 x6 x7 x8 x9 x10 x11 y11 z11 g5 g6 g7 g8 g10 hm kav e4' ht4 ht24 b4
  walk_at "wp"
  refine ⟨_, (cut_some ht11).1, fun q1 H12 s12 g12 => ?_⟩
  have x12 : Ext B H11 H12 := .of_same b11 s12
  have g12c := cut_tup x12.bag g12
  intro p6 hp_p6; generalize hh_p6 : upd H12 p6 _ = H13; obtain ⟨x13, g13⟩ := gen_new x12.bag hp_p6 hh_p6; clear hh_p6
  have cl1 := cutV_length (rowV r) none (some spot)
  have cl2 := cutV_length (rowV r) (some (spot + 1)) none
  refine ⟨_, (cut_some (x13.same _ _ g12c)).1, by omega, fun q2 H14 s14 g14 => ?_⟩
  have x14 : Ext B H13 H14 := .of_same x13.bag s14
  have g14c := cut_tup x14.bag g14
  have y14 := x12.trans (x13.trans x14)
  refine ⟨_, (cut_some (y14.same _ _ ht11)).1, fun q3 H15 s15 g15 => ?_⟩
  have x15 : Ext B H14 H15 := .of_same x14.bag s15
  have g15c := cut_tup x15.bag g15
  refine ⟨_, (cut_some (x15.same _ _ g14c)).1, _, (cut_some g15c).1, by rw [List.length_append, List.length_singleton]; omega, fun bt H16 s16 g16 => ?_⟩
  have x16 : Ext B H15 H16 := .of_same x15.bag s16
  have g16c := cut_tup x16.bag g16
  have y16 := y14.trans (x15.trans x16)
  have k16 : Th K (cut B.b H16) odd := kodd.same y16.same
  have kbt : Th K (cut B.b H16) (.ref bt) := by
    refine th_tup g16c ?_ fun x hx => ?_
    · rw [List.length_append, List.length_append, List.length_singleton]
      omega
    · rcases List.mem_append.mp hx with hx | hx
      · rcases List.mem_append.mp hx with hx | hx
        · unfold cutV at hx
          exact ak_row x (List.mem_of_mem_drop (List.mem_of_mem_take hx))
        · cases List.mem_singleton.mp hx
          exact k16.1
      · unfold cutV at hx
        exact ak_row x (List.mem_of_mem_drop (List.mem_of_mem_take hx))
  have ht16 := y16.same _ _ ht11
  have ht216 := y16.same _ _ ht211
  have e16 := e11.trans y16
  have b16 := x16.bag
  clear x12 x13 x14 x15 x16 y14 y16 g12 g12c g13 g14 g14c g15 g15c g16 g16c s12 s14 s15 s16 kodd k16 e11 b11 ht11 ht211
  refine ⟨_, .inr (.inl (.inl (cut_some ht16).1)), ?_⟩
  intro r1 hp_r1; generalize hh_r1 : upd H16 r1 _ = H17; obtain ⟨x17, g17⟩ := gen_new b16 hp_r1 hh_r1; clear hh_r1
  intro r2 hp_r2; generalize hh_r2 : upd H17 r2 _ = H18; obtain ⟨x18, g18⟩ := gen_new x17.bag hp_r2 hh_r2; clear hh_r2
  have y18 := x17.trans x18
  refine ⟨_, (cut_some (y18.same _ _ ht16)).1, by omega, fun r3 H19 s19 g19 => ?_⟩
  have x19 : Ext B H18 H19 := .of_same x18.bag s19
  have g19c := cut_tup x19.bag g19
  have y19 := y18.trans x19
  refine ⟨_, (cut_some (y19.same _ _ ht16)).1, fun r4 H20 s20 g20 => ?_⟩
  have x20 : Ext B H19 H20 := .of_same x19.bag s20
  have g20c := cut_tup x20.bag g20
  intro r5 hp_r5; generalize hh_r5 : upd H20 r5 _ = H21; obtain ⟨x21, g21⟩ := gen_new x20.bag hp_r5 hh_r5; clear hh_r5
  intro r6 hp_r6; generalize hh_r6 : upd H21 r6 _ = H22; obtain ⟨x22, g22⟩ := gen_new x21.bag hp_r6 hh_r6; clear hh_r6
  have y22 := y19.trans (x20.trans (x21.trans x22))
  refine ⟨B, n, k, rfl, x22.bag, hn0, hn1, hk, fun v H23 x23 kv => ?_⟩
  intro r7 hp_r7; generalize hh_r7 : upd H23 r7 _ = H24; obtain ⟨x24, g24⟩ := gen_new x23.bag hp_r7 hh_r7; clear hh_r7
  refine ⟨_, (cut_some ((x23.trans x24).same _ _ g22)).1, sl_small (by simp), ?_⟩
  intro r8 hp_r8; generalize hh_r8 : upd H24 r8 _ = H25; obtain ⟨x25, g25⟩ := gen_new x24.bag hp_r8 hh_r8; clear hh_r8
  have y25 := y22.trans (x23.trans (x24.trans x25))
  refine ⟨B, r8, _, rfl, x25.bag, .inl (.inl g25), by simp, by simp, fun v' H26 hm x26 => q _ _ (e16.trans (y25.trans x26)) ?_⟩
  refine Th.same x26.same ?_
  have w25 := x23.trans (x24.trans x25)
  simp only [List.cons_append, List.nil_append, List.mem_cons, List.not_mem_nil, or_false] at hm
  have kt : Th K (cut B.b H25) (.ref t) := th_tup (y25.same _ _ ht16) (by omega) ak_row
  rcases hm with rfl | rfl | rfl | rfl | rfl | rfl | rfl | rfl | rfl | rfl
  · exact kt
  · exact kt
  · exact th_tup (y25.same _ _ ht216) (by omega) ak_row
  · exact th_lst ((x18.trans (x19.trans (x20.trans (x21.trans (x22.trans w25))))).same _ _ g17)
  · exact kbt.same y25.same
  · exact kbt.same y25.same
  · refine th_tup ((x20.trans (x21.trans (x22.trans w25))).same _ _ g19c) (by rw [List.length_append, List.length_singleton]; omega) fun x hx => ?_
    rcases List.mem_append.mp hx with hx | hx
    · exact ak_row x hx
    · cases List.mem_singleton.mp hx
      exact th_non.1
  · refine th_tup ((x21.trans (x22.trans w25)).same _ _ g20c) ?_ fun x hx => ?_
    · have := cutV_length (rowV r) (some 1) none
      omega
    · unfold cutV at hx
      exact ak_row x (List.mem_of_mem_drop (List.mem_of_mem_take hx))
  · refine th_tup ((x22.trans w25).same _ _ g21) (by simp) fun x hx => ?_
    cases List.mem_singleton.mp hx
    exact kt.1
  · exact kv.same (x24.trans x25).same
def sp_value (K : PySem.W.Frag) : Sp := fun vs H Q _ => ∃ (B : BagId) (lo hi n k : Int), vs = [.ref B.b, .int lo, .int hi, .int n, .int k] ∧ Bag B H ∧ (-1000000000 ≤ lo ∧ lo ≤ 1000000000) ∧ 0 ≤ n ∧ n ≤ 20 ∧ (k = 2 ∨ k = 3) ∧ ∀ v H', Ext B H H' → Th K (cut B.b H') v → Q v H'
theorem th_exc {H : Hp} {a C d : Addr} {fs : List (Str × V)} (h : H a = some (exo a C (some d))) (hd : H d = some (exd d fs)) (hC : ExcK K C) : Th K H (.ref a) := ⟨⟨⟨_, .inr ⟨rfl, a, C, d, fs, rfl, h, hd, hC⟩⟩, fun z e => by cases e⟩, fun b ys e hb => by cases e; rw [h] at hb; exact absurd (Option.some.inj hb) exo_tup⟩
theorem exc_new {B : BagId} {H : Hp} {a d C : Addr} {fs : List (Str × V)} (hb : Bag B H) (ha : H a = none) (hd : (upd H a (exo a C none)) d = none) (hda : d ≠ a) :
    Ext B H (upd (upd (upd H a (exo a C none)) d (exd d fs)) a (exo a C (some d))) ∧ (ExcK K C → Th K (cut B.b (upd (upd (upd H a (exo a C none)) d (exd d fs)) a (exo a C (some d)))) (.ref a)) := by
  have hd0 : H d = none := by rw [upd_ne hda] at hd; exact hd
  have e1 : Ext B H (upd (upd (upd H a (exo a C none)) d (exd d fs)) a (exo a C (some d))) := (((Ext.refl hb).mut hb ha).mut hb hd0).mut hb ha
  refine ⟨e1, fun hC => th_exc (d := d) (fs := fs) (cut_of upd_same (hb.fresh ha)) (cut_of (by rw [upd_ne hda, upd_same]) (hb.fresh hd0)) hC⟩
theorem log_small {i : Int} (h : -1000000000 ≤ i ∧ i ≤ 1000000000) : i.natAbs.log2 < 1920 := by
  have h1 : i.natAbs ≤ 1000000000 := by omega
  by_cases z : i.natAbs = 0
  · rw [z]
    decide
  · exact (Nat.log2_lt z).mpr (Nat.lt_of_le_of_lt h1 (Nat.lt_of_lt_of_le (by decide : (1000000000 : Nat) < 2 ^ 30) (Nat.pow_le_pow_right (by decide) (by decide))))
theorem text_small {i : Int} (h : -1000000000 ≤ i ∧ i ≤ 1000000000) : (Str.ofString (toString i)).length ≤ 10000 := by
  have h1 : i.natAbs < 10 ^ 10 := by omega
  have h2 := int_text_length_le10 (by decide) h1
  have h3 : (Str.ofString (toString i)).length = (toString i).length := PySem.ofString_length _
  omega
theorem fn_or {f : Addr} {fd : FuncData} {ps : List Str} {sp1 sp2 : Sp} {k1 k2 k : Nat} (F1 : FnOk P w K mg base CX0 k1 f fd ps sp1) (F2 : FnOk P w K mg base CX0 k2 f fd ps sp2) (h1 : k1 ≤ k) (h2 : k2 ≤ k) : FnOk P w K mg base CX0 k f fd ps (fun vs H Q E => sp1 vs H Q E ∨ sp2 vs H Q E) := by
  refine ⟨fun vs H Q E h => h.elim (F1.len _ _ _ _) (F2.len _ _ _ _), ?_⟩
  intro A outer s H args us vs Q E hr e0 hb r h
  rcases h with h | h
  · exact F1.run A outer s H args us vs Q E (hr.mono h1) e0 hb r h
  · exact F2.run A outer s H args us vs Q E (hr.mono h2) e0 hb r h
theorem ok_value (T : Txt K mg) : FnOk P w K mg base CX0 7 T.l_value.f T.l_value.d ["_law_bag_here", "_law_low", "_law_high", "_law_n", "_law_base"] (sp_value K) := by
  have G_l_draw : FnOk P w K mg base CX0 1 T.l_draw.f T.l_draw.d ["_law_bag_here", "_law_size"] sp_draw := ok_draw T
  have G_l_of : FnOk P w K mg base CX0 2 T.l_of.f T.l_of.d ["_law_bag_here", "_law_things"] (sp_of K) := ok_of T
  have G_l_nearly_name : FnOk P w K mg base CX0 4 T.l_nearly_name.f T.l_nearly_name.d ["_law_bag_here"] (sp_thing K) := ok_nearly_name T
  have G_l_deep : FnOk P w K mg base CX0 5 T.l_deep.f T.l_deep.d ["_law_bag_here"] (sp_thing K) := ok_deep T
  have G_l_nearly_row : FnOk P w K mg base CX0 5 T.l_nearly_row.f T.l_nearly_row.d ["_law_bag_here", "_law_n", "_law_base"] (sp_rowlike K) := ok_nearly_row T
  have G_IO : FnOk P w K mg base CX0 1 T.IO_f T.IO_d ["self"] (sp_IO T.IO_C) := ok_IO T
  have any1 : FnOk P w K mg base CX0 4 T.l_any.f T.l_any.d ["_law_bag_here", "_law_deep_here"] (sp_anyT K 1) := anyT_step T (m := 1) (k := 3) (k' := 3) (by decide) (by decide) (anyT_step T (m := 0) (k := 2) (k' := 0) (by decide) (by decide) (none_left fun _ _ _ _ h => h))
  have any2 : FnOk P w K mg base CX0 5 T.l_any.f T.l_any.d ["_law_bag_here", "_law_deep_here"] (sp_anyT K 2) := anyT_step T (m := 2) (k := 4) (k' := 4) (by decide) (by decide) any1
  have any3 : FnOk P w K mg base CX0 6 T.l_any.f T.l_any.d ["_law_bag_here", "_law_deep_here"] (sp_anyT K 3) := anyT_step T (m := 3) (k := 5) (k' := 5) (by decide) (by decide) any2
  have G_l_any : FnOk P w K mg base CX0 6 T.l_any.f T.l_any.d ["_law_bag_here", "_law_deep_here"] (fun vs H Q E => sp_anyT K 2 vs H Q E ∨ sp_anyT K 3 vs H Q E) := fn_or any2 any3 (by decide) (by decide)
  refine T.l_value.F.ok sc_l_value (fun vs H Q E h => ?_) (fun cdv A outer s H vs Q E hr h => ?_)
  · obtain ⟨B, lo, hi, n, k, rfl, _⟩ := h
    rfl
  obtain ⟨B, lo, hi, n, k, rfl, hB, ⟨lo0, lo1⟩, hn0, hn1, hk, q⟩ := h
  refine ⟨_, (pss_cons (ps_set (i := 5) sc_l_value.nd rfl (.inl rfl) (pe_call G_l_draw (hr.mono (by omega)) (by rfl) T.l_draw.g T.l_draw.kp T.l_draw.b .nil pass0 (pa_cons (pv 0) (pa_cons pe_int pa_nil))))
      (pss_cons (ps_if (pt_cmpR op_eq (pv 5) pe_int (nomark _))
      (pss_one (ps_ret (pe_call G_l_any (hr.mono (by omega)) (by rfl) T.l_any.g T.l_any.kp T.l_any.b .nil pass0 (pa_cons (pv 0) (pa_cons pe_int pa_nil)))))
      pss_nil)
      (pss_cons (ps_if (pt_cmpR op_eq (pv 5) pe_int (nomark _))
      (pss_cons (ps_set (i := 6) sc_l_value.nd rfl (.inl rfl) (pe_lst (pa_cons (pe_op op_sub (pv 1) pe_int) (pa_cons (pv 1) (pa_cons (pv 2) (pa_cons (pe_op op_add (pv 2) pe_int) (pa_cons (pe_op op_add (pv 1) (pe_op op_fdivN (pe_op op_sub (pv 2) (pv 1)) pe_int)) (pa_cons (pv 4) (pa_cons (pe_op op_sub (pv 4) pe_int) (pa_cons pe_bl (pa_cons pe_bl (pa_cons pe_non (pa_cons (pe_callTy call_str_int (by rfl) T.z_str (by decide +kernel) (pa_cons (pv 1) pa_nil)) pa_nil)))))))))))))
      (pss_one (ps_ret (pe_call G_l_of (hr.mono (by omega)) (by rfl) T.l_of.g T.l_of.kp T.l_of.b .nil pass0 (pa_cons (pv 0) (pa_cons (pv 6) pa_nil))))))
      pss_nil)
      (pss_cons (ps_if (pt_cmpR op_eq (pv 5) pe_int (nomark _))
      (pss_one (ps_ret (pe_call G_l_nearly_name (hr.mono (by omega)) (by rfl) T.l_nearly_name.g T.l_nearly_name.kp T.l_nearly_name.b .nil pass0 (pa_cons (pv 0) pa_nil))))
      pss_nil)
      (pss_cons (ps_if (pt_cmpR op_eq (pv 5) pe_int (nomark _))
      (pss_one (ps_ret (pe_call G_l_of (hr.mono (by omega)) (by rfl) T.l_of.g T.l_of.kp T.l_of.b .nil pass0 (pa_cons (pv 0) (pa_cons (pe_lst (pa_cons (pe_call G_l_deep (hr.mono (by omega)) (by rfl) T.l_deep.g T.l_deep.kp T.l_deep.b .nil pass0 (pa_cons (pv 0) pa_nil)) (pa_cons (pe_excV0 T.IO_K.oe T.IO_i T.IO_t G_IO (hr.mono (by omega)) T.IO_b .nil pass0 (by rfl) T.IO_g) (pa_cons (pe_tup (pa_cons (pe_excV0 T.IO_K.oe T.IO_i T.IO_t G_IO (hr.mono (by omega)) T.IO_b .nil pass0 (by rfl) T.IO_g) (pa_cons pe_int pa_nil))) (pa_cons (pe_call G_l_any (hr.mono (by omega)) (by rfl) T.l_any.g T.l_any.kp T.l_any.b .nil pass0 (pa_cons (pv 0) (pa_cons pe_int pa_nil))) pa_nil))))) pa_nil)))))
      pss_nil)
      (pss_one (ps_ret (pe_call G_l_nearly_row (hr.mono (by omega)) (by rfl) T.l_nearly_row.g T.l_nearly_row.kp T.l_nearly_row.b .nil pass0 (pa_cons (pv 0) (pa_cons (pv 3) (pa_cons (pv 4) pa_nil))))))))))), ?_⟩
  walk_at "wp"
  refine ⟨B, _, rfl, hB, by decide, by decide, fun pick H1 e1 p0 p1 => ?_⟩
  walk_at "wp"
  refine ifk (fun c1 => ?_) (fun c1 => ?_)
  · walk_at "wp"
    exact .inl ⟨B, rfl, e1.bag, fun v H2 e2 kv => q _ _ (e1.trans e2) kv⟩
  walk_at "wp"
  refine ifk (fun c2 => ?_) (fun c2 => ?_)
  · walk_at "wp"
    refine ⟨⟨by decide, by decide⟩, log_small (by omega), ?_⟩
    intro p hp_p; generalize hh_p : upd H1 p _ = H2; obtain ⟨e2, g2⟩ := gen_new e1.bag hp_p hh_p; clear hh_p
    refine ⟨B, p, _, rfl, e2.bag, .inl (.inl g2), by simp, by simp, fun v H3 hm e3 => q _ _ (e1.trans (e2.trans e3)) ?_⟩
    simp only [List.mem_cons, List.not_mem_nil, or_false] at hm
    rcases hm with rfl | rfl | rfl | rfl | rfl | rfl | rfl | rfl | rfl | rfl | rfl
    · exact th_int
    · exact th_int
    · exact th_int
    · exact th_int
    · exact th_int
    · exact th_int
    · exact th_int
    · exact th_bl
    · exact th_bl
    · exact th_non
    · exact th_str (text_small (by omega))
  walk_at "wp"
  refine ifk (fun c3 => ?_) (fun c3 => ?_)
  · walk_at "wp"
    exact ⟨B, rfl, e1.bag, fun v H2 e2 kv => q _ _ (e1.trans e2) kv⟩
  walk_at "wp"
  refine ifk (fun c4 => ?_) (fun c4 => ?_)
  · walk_at "wp"
    refine ⟨B, rfl, e1.bag, fun v H2 e2 kv => ?_⟩
    refine ⟨by decide, fun a ha => ⟨a, rfl, upd_same, fun d hd hda => ⟨rfl, by decide, ?_⟩⟩⟩
    obtain ⟨x3, k3⟩ := exc_new (fs := [("code", .str "InvalidOrder")]) (C := T.IO_C) e2.bag ha hd hda
    have k3 := k3 T.IO_K
    generalize upd (upd (upd H2 a (exo a T.IO_C none)) d (exd d [(Str.ofString "code", V.str (Str.ofString "InvalidOrder"))])) a (exo a T.IO_C (some d)) = H3 at x3 k3 ⊢
    refine fun a2 ha2 => ⟨a2, rfl, upd_same, fun d2 hd2 hda2 => ⟨rfl, ?_⟩⟩
    obtain ⟨x4, k4⟩ := exc_new (fs := [("code", .str "InvalidOrder")]) (C := T.IO_C) x3.bag ha2 hd2 hda2
    have k4 := k4 T.IO_K
    generalize upd (upd (upd H3 a2 (exo a2 T.IO_C none)) d2 (exd d2 [(Str.ofString "code", V.str (Str.ofString "InvalidOrder"))])) a2 (exo a2 T.IO_C (some d2)) = H4 at x4 k4 ⊢
    intro p hp_p; generalize hh_p : upd H4 p _ = H5; obtain ⟨x5, g5⟩ := gen_new x4.bag hp_p hh_p; clear hh_p
    refine .inr ⟨B, rfl, x5.bag, fun w H6 x6 kw => ?_⟩
    intro p2 hp_p2; generalize hh_p2 : upd H6 p2 _ = H7; obtain ⟨x7, g7⟩ := gen_new x6.bag hp_p2 hh_p2; clear hh_p2
    have y7 := x5.trans (x6.trans x7)
    refine ⟨B, p2, _, rfl, x7.bag, .inl (.inl g7), by simp, by simp, fun v' H8 hm x8 => q _ _ (e1.trans (e2.trans (x3.trans (x4.trans (y7.trans x8))))) ?_⟩
    refine Th.same x8.same ?_
    simp only [List.mem_cons, List.not_mem_nil, or_false] at hm
    rcases hm with rfl | rfl | rfl | rfl
    · exact kv.same (x3.trans (x4.trans y7)).same
    · exact k3.same (x4.trans y7).same
    · refine th_tup ((x6.trans x7).same _ _ g5) (by simp) fun x hx => ?_
      simp only [List.mem_cons, List.not_mem_nil, or_false] at hx
      rcases hx with rfl | rfl
      · exact (k4.same y7.same).1
      · exact th_int.1
    · exact kw.same x7.same
  walk_at "wp"
  exact ⟨B, n, k, rfl, e1.bag, hn0, hn1, hk, fun v H2 e2 kv => q _ _ (e1.trans e2) kv⟩
end
end Kx

set_option Elab.async false
set_option linter.all false
set_option maxRecDepth 100000
set_option maxHeartbeats 4000000
namespace Kx
open PySem PySem.Spec PyProof.Rows L2
local macro_rules | `(tactic| walk_at "wp") => `(tactic| simp only [tSeq, tAsg, tC, tVar, tOp, tUn, rI, rI0, rU, tCB, tCons, tNil, tRet, tRetN, tDrop, tLst, tTup, tIf_eq, tIfS_eq, ifk_t, ifk_f, iek_t, iek_f, tTest, tB, tAnd, tOr, tNot, tAndV, tOrV, tNotV, tNext, tSl, rSlL, tPart, tNoPart, gName, gTup, gCons, gNil, gSub, rSetL, tCall, iList, iTup, iRng1, iRng2, rIxL, rIxT, rEq, rNe, scal_ii, scal_bb, scal_ss, scal_nx, scal_xn, RZ.iZipA, rIsiF, rIsiFT, vty_non, vty_bl, vty_int, vty_str, isa_list_list, isa_list_tuple, isa_list_bool, isa_list_int, isa_list_str, isa_tuple_list, isa_tuple_tuple, isa_tuple_bool, isa_tuple_int, isa_tuple_str, isa_dict_list, isa_dict_tuple, isa_dict_bool, isa_dict_int, isa_dict_str, isa_bool_list, isa_bool_tuple, isa_bool_bool, isa_bool_int, isa_bool_str, isa_int_list, isa_int_tuple, isa_int_bool, isa_int_int, isa_int_str, isa_str_list, isa_str_tuple, isa_str_bool, isa_str_int, isa_str_str, isa_non_list, isa_non_tuple, isa_non_bool, isa_non_int, isa_non_str, kc_bool, kc_int, kc_str, kc_list, kc_tuple, upd_same, HO.tup.injEq, HO.lst.injEq, V.ty.injEq, Bool.or_true, Bool.true_or, Bool.or_false, Bool.false_or, sz_0, sz_1, sz_2, sz_3, sz_4, sz_5, sz_6, sz_7, sz_8, sz_9, sz_10, sz_11, sz_12, sz_13, decide_true, decide_false, C8.tCut, tBM, tBM0, rAppend, rTupU, rCatU, rSlU, rRepT, rRep, rCat, rIsiG, kn_non, kn_bl, kn_int, kn_str, tChain, tMkV, exists_eq, tPar, tCallN,  tDisp, tPairs, rSlS, rLenS, rLenV, rListOf, rTupOf, tM0, tM1, iStr, wipe, tYes, tFor_eq, tLc_eq, L2.start, cxOf, Cx.nox, Cx.wish, List.map_cons, List.map_nil, List.length_cons, List.length_nil, List.replicate, List.cons_append, List.nil_append, List.getElem?_cons_zero, List.getElem?_cons_succ, List.set_cons_zero, List.set_cons_succ, Option.some.injEq, and_assoc, exists_and_left, exists_and_right, exists_eq_left', exists_eq_left, exists_eq, exists_eq', true_and, and_true, Nat.reduceSub, Nat.reduceAdd, V.int.injEq, V.ref.injEq, V.bl.injEq, V.str.injEq, List.cons.injEq, decide_eq_true_eq, reduceCtorEq, false_or, or_false, and_false, false_and, exists_false, exists_const, if_true, if_false, Bool.true_eq_false, Bool.false_eq_true, ite_true, ite_false, Bool.not_true, Bool.not_false, decide_eq_false_iff_not, ne_eq])

section
variable {P : Program} {w : World} {K : PySem.W.Frag} {mg : Str → Option Value} {base : Heap}
def duesL (H : Hp) (x : V) (lo hi n k : Int) : List Bool := [numB x lo hi, nameB x, numB x 0 (k - 1), valB x k, rowB H x n k]
theorem rowB_same {H H' : Hp} {x : V} {n k : Int} (h : Ak K H x) (e : Same H H') : rowB H' x n k = rowB H x n k := by
  cases x with
  | ref a =>
    obtain ⟨o, ho⟩ := h.at
    have ho' := e _ _ ho
    unfold rowB
    dsimp only
    rw [ho, ho']
  | _ => rfl
theorem rowB_up {H : Hp} {x : V} {n k : Int} {D : Addr} {ys zs : List V} (hD : H D = some (.lst ys)) : rowB (upd H D (.lst zs)) x n k = rowB H x n k := by
  cases x with
  | ref a =>
    unfold rowB
    dsimp only
    by_cases e : a = D
    · subst e
      rw [upd_same, hD]
    · rw [upd_ne e]
  | _ => rfl
theorem duesL_same {H H' : Hp} {x : V} {lo hi n k : Int} (h : Ak K H x) (e : Same H H') : duesL H' x lo hi n k = duesL H x lo hi n k := by
  unfold duesL
  rw [rowB_same h e]
def sp_asks (K : PySem.W.Frag) : Sp := fun vs H Q _ => ∃ (x : V) (lo hi n k : Int), vs = [x, .int lo, .int hi, .int n, .int k] ∧ Th K H x ∧ ∀ p H', H p = none → Same H H' → H' p = some (.lst ((duesL H x lo hi n k).map V.bl)) → Q (.ref p) H'
theorem ok_asks (T : Txt K mg) : FnOk P w K mg base CX0 5 T.l_asks.f T.l_asks.d ["_law_thing", "_law_low", "_law_high", "_law_n", "_law_base"] (sp_asks K) := by
  have G_is_number : FnOk P w K mg base CX0 1 T.is_number.f T.is_number.d ["value", "least", "most"] (sp_is_number K) := ok_is_number T
  have G_is_name : FnOk P w K mg base CX0 1 T.is_name.f T.is_name.d ["value"] (sp_is_name K) := ok_is_name T
  have G_is_sign : FnOk P w K mg base CX0 2 T.is_sign.f T.is_sign.d ["value", "signs"] (sp_is_sign K) := ok_is_sign T
  have G_is_value : FnOk P w K mg base CX0 3 T.is_value.f T.is_value.d ["value", "signs"] (sp_is_value K) := ok_is_value T
  have G_is_row : FnOk P w K mg base CX0 4 T.is_row.f T.is_row.d ["value", "inputs", "signs"] (sp_is_row K) := ok_is_row T
  refine T.l_asks.F.ok sc_l_asks (fun vs H Q E h => ?_) (fun cdv A outer s H vs Q E hr h => ?_)
  · obtain ⟨x, lo, hi, n, k, rfl, _⟩ := h
    rfl
  obtain ⟨x, lo, hi, n, k, rfl, hx, q⟩ := h
  refine ⟨_, (pss_cons (ps_set (i := 5) sc_l_asks.nd rfl (.inl rfl) (pe_lst (pa_cons (pe_call G_is_number (hr.mono (by omega)) (by rfl) T.is_number.g T.is_number.kp T.is_number.b .nil pass0 (pa_cons (pv 0) (pa_cons (pv 1) (pa_cons (pv 2) pa_nil)))) (pa_cons (pe_call G_is_name (hr.mono (by omega)) (by rfl) T.is_name.g T.is_name.kp T.is_name.b .nil pass0 (pa_cons (pv 0) pa_nil)) (pa_cons (pe_call G_is_sign (hr.mono (by omega)) (by rfl) T.is_sign.g T.is_sign.kp T.is_sign.b .nil pass0 (pa_cons (pv 0) (pa_cons (pv 4) pa_nil))) (pa_cons (pe_call G_is_value (hr.mono (by omega)) (by rfl) T.is_value.g T.is_value.kp T.is_value.b .nil pass0 (pa_cons (pv 0) (pa_cons (pv 4) pa_nil))) pa_nil))))))
      (pss_one (ps_ret (pe_op op_cat (pv 5) (pe_lst (pa_cons (pe_call G_is_row (hr.mono (by omega)) (by rfl) T.is_row.g T.is_row.kp T.is_row.b .nil pass0 (pa_cons (pv 0) (pa_cons (pv 3) (pa_cons (pv 4) pa_nil)))) pa_nil)))))), ?_⟩
  walk_at "wp"
  refine ⟨x, lo, hi, rfl, hx.1, x, rfl, hx.1, fun H1 s1 => ⟨x, k, rfl, (hx.same s1).1, x, k, rfl, (hx.same s1).1, ?_⟩⟩
  intro p hp
  have s2 : Same H1 (upd H1 p (.lst [.bl (numB x lo hi), .bl (nameB x), .bl (numB x 0 (k - 1)), .bl (valB x k)])) := same_upd hp
  refine ⟨x, n, k, rfl, hx.same (s1.trans s2), fun H3 s3 => ?_⟩
  walk_at "wp"
  intro p2 hp2
  have s4 : Same H3 (upd H3 p2 (.lst [.bl (rowB (upd H1 p (.lst [.bl (numB x lo hi), .bl (nameB x), .bl (numB x 0 (k - 1)), .bl (valB x k)])) x n k)])) := same_upd hp2
  refine ⟨_, s4 _ _ (s3 _ _ upd_same), sl_small (by simp), fun p3 hp3 => ?_⟩
  have s5 := s1.trans (s2.trans (s3.trans s4))
  refine q _ _ (s5.free hp3) (s5.trans (same_upd hp3)) ?_
  rw [upd_same, rowB_same hx.1 (s1.trans s2)]
  rfl
theorem ok_dues (T : Txt K mg) : FnOk P w K mg base CX0 5 T.l_dues.f T.l_dues.d ["_law_thing", "_law_low", "_law_high", "_law_n", "_law_base"] (sp_asks K) := by
  have G_l_is_number : FnOk P w K mg base CX0 1 T.l_is_number.f T.l_is_number.d ["_law_value_here"] (sp_l_is_number K) := ok_l_is_number T
  have G_l_is_name : FnOk P w K mg base CX0 1 T.l_is_name.f T.l_is_name.d ["_law_value_here"] (sp_is_name K) := ok_l_is_name T
  have G_l_is_sign : FnOk P w K mg base CX0 2 T.l_is_sign.f T.l_is_sign.d ["_law_value_here", "_law_base"] (sp_is_sign K) := ok_l_is_sign T
  have G_l_is_value : FnOk P w K mg base CX0 3 T.l_is_value.f T.l_is_value.d ["_law_value_here", "_law_base"] (sp_is_value K) := ok_l_is_value T
  have G_l_is_row : FnOk P w K mg base CX0 4 T.l_is_row.f T.l_is_row.d ["_law_value_here", "_law_n", "_law_base"] (sp_is_row K) := ok_l_is_row T
  refine T.l_dues.F.ok sc_l_dues (fun vs H Q E h => ?_) (fun cdv A outer s H vs Q E hr h => ?_)
  · obtain ⟨x, lo, hi, n, k, rfl, _⟩ := h
    rfl
  obtain ⟨x, lo, hi, n, k, rfl, hx, q⟩ := h
  refine ⟨_, (pss_cons (ps_set (i := 5) sc_l_dues.nd rfl (.inl rfl) (pe_lst (pa_cons (pe_and (pe_call G_l_is_number (hr.mono (by omega)) (by rfl) T.l_is_number.g T.l_is_number.kp T.l_is_number.b .nil pass0 (pa_cons (pv 0) pa_nil)) (pe_one (pe_chain op_le op_le (pv 1) (pv 0) (pv 2)))) (pa_cons (pe_call G_l_is_name (hr.mono (by omega)) (by rfl) T.l_is_name.g T.l_is_name.kp T.l_is_name.b .nil pass0 (pa_cons (pv 0) pa_nil)) (pa_cons (pe_call G_l_is_sign (hr.mono (by omega)) (by rfl) T.l_is_sign.g T.l_is_sign.kp T.l_is_sign.b .nil pass0 (pa_cons (pv 0) (pa_cons (pv 4) pa_nil))) pa_nil)))))
      (pss_one (ps_ret (pe_op op_cat (pv 5) (pe_lst (pa_cons (pe_call G_l_is_value (hr.mono (by omega)) (by rfl) T.l_is_value.g T.l_is_value.kp T.l_is_value.b .nil pass0 (pa_cons (pv 0) (pa_cons (pv 4) pa_nil))) (pa_cons (pe_call G_l_is_row (hr.mono (by omega)) (by rfl) T.l_is_row.g T.l_is_row.kp T.l_is_row.b .nil pass0 (pa_cons (pv 0) (pa_cons (pv 3) (pa_cons (pv 4) pa_nil)))) pa_nil))))))), ?_⟩
  walk_at "wp"
  refine ⟨x, rfl, hx.1, ?_⟩
  cases hx1 : isNum x with
  | true =>
    obtain ⟨i, rfl⟩ : ∃ i, x = .int i := by
      unfold isNum at hx1
      split at hx1
      · exact ⟨_, rfl⟩
      · cases hx1
    generalize hxx : V.int i = x at *
    have hnum : numB x lo hi = decide (lo ≤ i ∧ i ≤ hi) := by subst hxx; rfl
    refine ⟨_, rfl, ?_⟩
    rw [if_pos rfl]
    refine ⟨i, hxx.symm, ite2 (fun c => ?_) (fun c => ?_)⟩
    · refine ⟨i, hxx.symm, ?_⟩
      have eb : numB x lo hi = decide (i ≤ hi) := by
        rw [hnum, Bool.eq_iff_iff]
        simp only [decide_eq_true_eq]
        exact ⟨fun h => h.2, fun h => ⟨c, h⟩⟩
      refine ⟨x, rfl, hx.1, fun H1 s1 => ⟨x, k, rfl, (hx.same s1).1, ?_⟩⟩
      intro p hp
      have s2 : Same H1 (upd H1 p (.lst [.bl (decide (i ≤ hi)), .bl (nameB x), .bl (numB x 0 (k - 1))])) := same_upd hp
      refine ⟨x, k, rfl, (hx.same (s1.trans s2)).1, x, n, k, rfl, hx.same (s1.trans s2), fun H3 s3 => ?_⟩
      try walk_at "wp"
      intro p2 hp2
      have s4 : Same H3 (upd H3 p2 (.lst [.bl (valB x k), .bl (rowB (upd H1 p (.lst [.bl (decide (i ≤ hi)), .bl (nameB x), .bl (numB x 0 (k - 1))])) x n k)])) := same_upd hp2
      refine ⟨_, s4 _ _ (s3 _ _ upd_same), sl_small (by simp), fun p3 hp3 => ?_⟩
      have s5 := s1.trans (s2.trans (s3.trans s4))
      refine q _ _ (s5.free hp3) (s5.trans (same_upd hp3)) ?_
      rw [upd_same, rowB_same hx.1 (s1.trans s2)]
      unfold duesL
      rw [eb]
      rfl
    · have eb : numB x lo hi = false := by
        rw [hnum]
        exact decide_eq_false fun h => c h.1
      refine ⟨x, rfl, hx.1, fun H1 s1 => ⟨x, k, rfl, (hx.same s1).1, ?_⟩⟩
      intro p hp
      have s2 : Same H1 (upd H1 p (.lst [.bl false, .bl (nameB x), .bl (numB x 0 (k - 1))])) := same_upd hp
      refine ⟨x, k, rfl, (hx.same (s1.trans s2)).1, x, n, k, rfl, hx.same (s1.trans s2), fun H3 s3 => ?_⟩
      try walk_at "wp"
      intro p2 hp2
      have s4 : Same H3 (upd H3 p2 (.lst [.bl (valB x k), .bl (rowB (upd H1 p (.lst [.bl false, .bl (nameB x), .bl (numB x 0 (k - 1))])) x n k)])) := same_upd hp2
      refine ⟨_, s4 _ _ (s3 _ _ upd_same), sl_small (by simp), fun p3 hp3 => ?_⟩
      have s5 := s1.trans (s2.trans (s3.trans s4))
      refine q _ _ (s5.free hp3) (s5.trans (same_upd hp3)) ?_
      rw [upd_same, rowB_same hx.1 (s1.trans s2)]
      unfold duesL
      rw [eb]
      rfl
  | false =>
    have eb : numB x lo hi = false := by
      unfold isNum at hx1
      unfold numB
      split
      · cases hx1
      · rfl
    refine ⟨_, rfl, ?_⟩
    rw [if_neg Bool.false_ne_true]
    refine ⟨x, rfl, hx.1, fun H1 s1 => ⟨x, k, rfl, (hx.same s1).1, ?_⟩⟩
    intro p hp
    have s2 : Same H1 (upd H1 p (.lst [.bl false, .bl (nameB x), .bl (numB x 0 (k - 1))])) := same_upd hp
    refine ⟨x, k, rfl, (hx.same (s1.trans s2)).1, x, n, k, rfl, hx.same (s1.trans s2), fun H3 s3 => ?_⟩
    try walk_at "wp"
    intro p2 hp2
    have s4 : Same H3 (upd H3 p2 (.lst [.bl (valB x k), .bl (rowB (upd H1 p (.lst [.bl false, .bl (nameB x), .bl (numB x 0 (k - 1))])) x n k)])) := same_upd hp2
    refine ⟨_, s4 _ _ (s3 _ _ upd_same), sl_small (by simp), fun p3 hp3 => ?_⟩
    have s5 := s1.trans (s2.trans (s3.trans s4))
    refine q _ _ (s5.free hp3) (s5.trans (same_upd hp3)) ?_
    rw [upd_same, rowB_same hx.1 (s1.trans s2)]
    unfold duesL
    rw [eb]
    rfl
theorem paired_bools {H : Hp} {n : Nat} : ∀ (bs : List Bool), Paired (Is H n) (bs.map PyData.bool) (bs.map V.bl)
  | [] => .nil
  | b :: bs => .cons (by unfold Is; rfl) (paired_bools bs)
theorem is_bools {H : Hp} {a : Addr} {bs : List Bool} (h : H a = some (.lst (bs.map V.bl))) (hl : bs.length ≤ 1000) : Is H 1 (.list (bs.map PyData.bool)) (.ref a) := by
  unfold Is
  exact ⟨by rw [List.length_map]; exact hl, a, _, rfl, h, paired_bools bs⟩
/-- what was kept of a turn -/
def Item (K : PySem.W.Frag) (kp : Addr) (F : Hp) (v : V) : Prop := ∃ (t dl : Addr) (x : V) (lo hi n k : Int), v = .ref t ∧ F t = some (.tup [x, .int lo, .int hi, .int n, .int k, .ref dl]) ∧ Th K F x ∧ dl ≠ kp ∧ F dl = some (.lst ((duesL F x lo hi n k).map V.bl)) ∧
  (0 ≤ n ∧ n ≤ 8) ∧ (k = 2 ∨ k = 3) ∧ lo ≤ hi
theorem Item.same {kp : Addr} {F F' : Hp} {v : V} (h : Item K kp F v) (e : Same F F') : Item K kp F' v := by
  obtain ⟨t, dl, x, lo, hi, n, k, rfl, h1, h2, h3, h4, h5⟩ := h
  exact ⟨t, dl, x, lo, hi, n, k, rfl, e _ _ h1, h2.same e, h3, by rw [duesL_same h2.1 e]; exact e _ _ h4, h5⟩
theorem Item.up {kp : Addr} {F : Hp} {v : V} {ys zs : List V} (h : Item K kp F v) (hk : F kp = some (.lst ys)) : Item K kp (upd F kp (.lst zs)) v := by
  obtain ⟨t, dl, x, lo, hi, n, k, rfl, h1, h2, h3, h4, h5⟩ := h
  have n1 : t ≠ kp := fun e => by
    rw [e, hk] at h1
    cases h1
  refine ⟨t, dl, x, lo, hi, n, k, rfl, by rw [upd_ne n1]; exact h1, h2.up hk, h3, ?_, h5⟩
  have e : duesL (upd F kp (.lst zs)) x lo hi n k = duesL F x lo hi n k := by
    unfold duesL
    rw [rowB_up hk]
  rw [upd_ne h3, e]
  exact h4
end
end Kx

set_option Elab.async false
set_option linter.all false
set_option maxRecDepth 100000
set_option maxHeartbeats 4000000
namespace Kx
open PySem PySem.Spec PyProof.Rows L2
local macro_rules | `(tactic| walk_at "wp") => `(tactic| simp only [tSeq, tAsg, tC, tVar, tOp, tUn, rI, rI0, rU, tCB, tCons, tNil, tRet, tRetN, tDrop, tLst, tTup, tIf_eq, tIfS_eq, ifk_t, ifk_f, iek_t, iek_f, tTest, tB, tAnd, tOr, tNot, tAndV, tOrV, tNotV, tNext, tSl, rSlL, tPart, tNoPart, gName, gTup, gCons, gNil, gSub, rSetL, tCall, iList, iTup, iRng1, iRng2, rIxL, rIxT, rEq, rNe, scal_ii, scal_bb, scal_ss, scal_nx, scal_xn, RZ.iZipA, rIsiF, rIsiFT, vty_non, vty_bl, vty_int, vty_str, isa_list_list, isa_list_tuple, isa_list_bool, isa_list_int, isa_list_str, isa_tuple_list, isa_tuple_tuple, isa_tuple_bool, isa_tuple_int, isa_tuple_str, isa_dict_list, isa_dict_tuple, isa_dict_bool, isa_dict_int, isa_dict_str, isa_bool_list, isa_bool_tuple, isa_bool_bool, isa_bool_int, isa_bool_str, isa_int_list, isa_int_tuple, isa_int_bool, isa_int_int, isa_int_str, isa_str_list, isa_str_tuple, isa_str_bool, isa_str_int, isa_str_str, isa_non_list, isa_non_tuple, isa_non_bool, isa_non_int, isa_non_str, kc_bool, kc_int, kc_str, kc_list, kc_tuple, upd_same, HO.tup.injEq, HO.lst.injEq, V.ty.injEq, Bool.or_true, Bool.true_or, Bool.or_false, Bool.false_or, sz_0, sz_1, sz_2, sz_3, sz_4, sz_5, sz_6, sz_7, sz_8, sz_9, sz_10, sz_11, sz_12, sz_13, decide_true, decide_false, C8.tCut, tBM, tBM0, rAppend, rTupU, rCatU, rSlU, rRepT, rRep, rCat, rIsiG, kn_non, kn_bl, kn_int, kn_str, tChain, tMkV, exists_eq, tPar, tCallN,  tDisp, tPairs, rSlS, rLenS, rLenV, rListOf, rTupOf, tM0, tM1, iStr, wipe, tYes, tFor_eq, tLc_eq, L2.start, cxOf, Cx.nox, Cx.wish, List.map_cons, List.map_nil, List.length_cons, List.length_nil, List.replicate, List.cons_append, List.nil_append, List.getElem?_cons_zero, List.getElem?_cons_succ, List.set_cons_zero, List.set_cons_succ, Option.some.injEq, and_assoc, exists_and_left, exists_and_right, exists_eq_left', exists_eq_left, exists_eq, exists_eq', true_and, and_true, Nat.reduceSub, Nat.reduceAdd, V.int.injEq, V.ref.injEq, V.bl.injEq, V.str.injEq, List.cons.injEq, decide_eq_true_eq, reduceCtorEq, false_or, or_false, and_false, false_and, exists_false, exists_const, if_true, if_false, Bool.true_eq_false, Bool.false_eq_true, ite_true, ite_false, Bool.not_true, Bool.not_false, decide_eq_false_iff_not, ne_eq])

section
variable {P : Program} {w : World} {K : PySem.W.Frag} {mg : Str → Option Value} {base : Heap}
def sp_law (K : PySem.W.Frag) : Sp := fun vs H Q _ => ∃ (a : Addr) (ns : List Int), vs = [.ref a] ∧ SqL K H a (ns.map V.int) ∧ ns.length ≤ 63 ∧ ∀ H', Q (.bl true) H'
theorem ok_law (T : Txt K mg) {fa : Addr} {fd : FuncData} (F : Fun K "law" "law" s_law fa fd) : FnOk P w K mg base CX0 8 fa fd ["_law_script"] (sp_law K) := by
  have G_l_bag : FnOk P w K mg base CX0 1 T.l_bag.f T.l_bag.d ["_law_script"] (sp_bag K) := ok_bag T
  have G_l_draw : FnOk P w K mg base CX0 1 T.l_draw.f T.l_draw.d ["_law_bag_here", "_law_size"] sp_draw := ok_draw T
  have G_l_of : FnOk P w K mg base CX0 2 T.l_of.f T.l_of.d ["_law_bag_here", "_law_things"] (sp_of K) := ok_of T
  have G_l_row : FnOk P w K mg base CX0 3 T.l_row.f T.l_row.d ["_law_bag_here", "_law_n", "_law_base"] (sp_row K) := ok_row T
  have G_l_letters : FnOk P w K mg base CX0 3 T.l_letters.f T.l_letters.d ["_law_bag_here", "_law_size"] sp_letters := ok_letters T
  have G_l_value : FnOk P w K mg base CX0 7 T.l_value.f T.l_value.d ["_law_bag_here", "_law_low", "_law_high", "_law_n", "_law_base"] (sp_value K) := ok_value T
  have G_l_asks : FnOk P w K mg base CX0 5 T.l_asks.f T.l_asks.d ["_law_thing", "_law_low", "_law_high", "_law_n", "_law_base"] (sp_asks K) := ok_asks T
  have G_l_dues : FnOk P w K mg base CX0 5 T.l_dues.f T.l_dues.d ["_law_thing", "_law_low", "_law_high", "_law_n", "_law_base"] (sp_asks K) := ok_dues T
  have G_l_like : FnOk P w K mg base CX0 2 T.l_like.f T.l_like.d ["_law_found", "_law_due"] (sp_like 1) := ok_like T 2
  have G_is_number : FnOk P w K mg base CX0 1 T.is_number.f T.is_number.d ["value", "least", "most"] (sp_is_number K) := ok_is_number T
  have G_is_name : FnOk P w K mg base CX0 1 T.is_name.f T.is_name.d ["value"] (sp_is_name K) := ok_is_name T
  have G_is_sign : FnOk P w K mg base CX0 2 T.is_sign.f T.is_sign.d ["value", "signs"] (sp_is_sign K) := ok_is_sign T
  have G_is_value : FnOk P w K mg base CX0 3 T.is_value.f T.is_value.d ["value", "signs"] (sp_is_value K) := ok_is_value T
  have G_is_row : FnOk P w K mg base CX0 4 T.is_row.f T.is_row.d ["value", "inputs", "signs"] (sp_is_row K) := ok_is_row T
  refine F.ok sc_law (fun vs H Q E h => ?_) (fun cdv A outer s H vs Q E hr h => ?_)
  · obtain ⟨a, ns, rfl, _⟩ := h
    rfl
  obtain ⟨a, ns, rfl, hS, hlen, q⟩ := h
  refine ⟨_, (pss_cons (ps_set (i := 1) sc_law.nd rfl (.inl rfl) (pe_call G_l_bag (hr.mono (by omega)) (by rfl) T.l_bag.g T.l_bag.kp T.l_bag.b .nil pass0 (pa_cons (pv 0) pa_nil)))
      (pss_cons (ps_set (i := 2) sc_law.nd rfl (.inl rfl) (pe_lst pa_nil))
      (pss_cons (ps_for PassesOwn.never rfl (pi_range1 (by rfl) T.z_range (pa_cons pe_int pa_nil)) (pg_name (i := 3) sc_law.nd rfl (.inl rfl))
      (pss_cons (ps_par (i := 4) (j := 5) (by rfl) sc_law.nd rfl rfl (by decide) rfl rfl (pa_cons (pe_op op_add pe_int (pe_call G_l_draw (hr.mono (by omega)) (by rfl) T.l_draw.g T.l_draw.kp T.l_draw.b .nil pass0 (pa_cons (pv 1) (pa_cons pe_int pa_nil)))) (pa_cons (pe_call G_l_of (hr.mono (by omega)) (by rfl) T.l_of.g T.l_of.kp T.l_of.b .nil pass0 (pa_cons (pv 1) (pa_cons (pe_lst (pa_cons pe_int (pa_cons pe_int (pa_cons pe_int (pa_cons pe_int (pa_cons pe_int (pa_cons pe_int (pa_cons (pe_call G_l_draw (hr.mono (by omega)) (by rfl) T.l_draw.g T.l_draw.kp T.l_draw.b .nil pass0 (pa_cons (pv 1) (pa_cons pe_int pa_nil))) pa_nil)))))))) pa_nil))) pa_nil)) (by rfl))
      (pss_cons (ps_set (i := 6) sc_law.nd rfl (.inl rfl) (pe_call G_l_of (hr.mono (by omega)) (by rfl) T.l_of.g T.l_of.kp T.l_of.b .nil pass0 (pa_cons (pv 1) (pa_cons (pe_lst (pa_cons pe_int (pa_cons pe_int (pa_cons pe_int (pa_cons (pe_op op_sub pe_int pe_int) (pa_cons (pe_op op_sub (pe_call G_l_draw (hr.mono (by omega)) (by rfl) T.l_draw.g T.l_draw.kp T.l_draw.b .nil pass0 (pa_cons (pv 1) (pa_cons pe_int pa_nil))) pe_int) (pa_cons (pe_op op_sub pe_int pe_int) (pa_cons pe_int pa_nil)))))))) pa_nil))))
      (pss_cons (ps_set (i := 7) sc_law.nd rfl (.inl rfl) (pe_op op_add (pv 6) (pe_call G_l_of (hr.mono (by omega)) (by rfl) T.l_of.g T.l_of.kp T.l_of.b .nil pass0 (pa_cons (pv 1) (pa_cons (pe_lst (pa_cons pe_int (pa_cons pe_int (pa_cons pe_int (pa_cons pe_int (pa_cons pe_int (pa_cons (pe_call G_l_draw (hr.mono (by omega)) (by rfl) T.l_draw.g T.l_draw.kp T.l_draw.b .nil pass0 (pa_cons (pv 1) (pa_cons pe_int pa_nil))) pa_nil))))))) pa_nil)))))
      (pss_cons (ps_set (i := 8) sc_law.nd rfl (.inl rfl) (pe_call G_l_value (hr.mono (by omega)) (by rfl) T.l_value.g T.l_value.kp T.l_value.b .nil pass0 (pa_cons (pv 1) (pa_cons (pv 6) (pa_cons (pv 7) (pa_cons (pv 5) (pa_cons (pv 4) pa_nil)))))))
      (pss_cons (ps_set (i := 9) sc_law.nd rfl (.inl rfl) (pe_call G_l_dues (hr.mono (by omega)) (by rfl) T.l_dues.g T.l_dues.kp T.l_dues.b .nil pass0 (pa_cons (pv 8) (pa_cons (pv 6) (pa_cons (pv 7) (pa_cons (pv 5) (pa_cons (pv 4) pa_nil)))))))
      (pss_cons (ps_if (pt_not (pt_val (pe_call G_l_like (hr.mono (by omega)) (by rfl) T.l_like.g T.l_like.kp T.l_like.b .nil pass0 (pa_cons (pe_call G_l_asks (hr.mono (by omega)) (by rfl) T.l_asks.g T.l_asks.kp T.l_asks.b .nil pass0 (pa_cons (pv 8) (pa_cons (pv 6) (pa_cons (pv 7) (pa_cons (pv 5) (pa_cons (pv 4) pa_nil)))))) (pa_cons (pv 9) pa_nil)))))
      (pss_one (ps_ret pe_bl))
      pss_nil)
      (pss_one (ps_expr (pe_bm PySem.F.plainAttrs_list PySem.F.slot_list_append PySem.F.type_list_append mt_append (pv 2) (pa_cons (pe_tup (pa_cons (pv 8) (pa_cons (pv 6) (pa_cons (pv 7) (pa_cons (pv 5) (pa_cons (pv 4) (pa_cons (pv 9) pa_nil))))))) pa_nil)))))))))))
      (pss_cons (ps_for PassesOwn.never rfl (pi_list (pv 2)) (pg_tup rfl (pgs_cons (pg_name (i := 8) sc_law.nd rfl (.inl rfl)) (pgs_cons (pg_name (i := 6) sc_law.nd rfl (.inl rfl)) (pgs_cons (pg_name (i := 7) sc_law.nd rfl (.inl rfl)) (pgs_cons (pg_name (i := 5) sc_law.nd rfl (.inl rfl)) (pgs_cons (pg_name (i := 4) sc_law.nd rfl (.inl rfl)) (pgs_cons (pg_name (i := 9) sc_law.nd rfl (.inl rfl)) pgs_nil)))))))
      (pss_cons (ps_if (pt_not (pt_val (pe_call G_l_like (hr.mono (by omega)) (by rfl) T.l_like.g T.l_like.kp T.l_like.b .nil pass0 (pa_cons (pe_call G_l_asks (hr.mono (by omega)) (by rfl) T.l_asks.g T.l_asks.kp T.l_asks.b .nil pass0 (pa_cons (pv 8) (pa_cons (pv 6) (pa_cons (pv 7) (pa_cons (pv 5) (pa_cons (pv 4) pa_nil)))))) (pa_cons (pv 9) pa_nil)))))
      (pss_one (ps_ret pe_bl))
      pss_nil)
      (pss_cons (ps_set (i := 10) sc_law.nd rfl (.inl rfl) (pe_call G_l_letters (hr.mono (by omega)) (by rfl) T.l_letters.g T.l_letters.kp T.l_letters.b .nil pass0 (pa_cons (pv 1) (pa_cons (pe_op op_add pe_int (pe_call G_l_draw (hr.mono (by omega)) (by rfl) T.l_draw.g T.l_draw.kp T.l_draw.b .nil pass0 (pa_cons (pv 1) (pa_cons pe_int pa_nil)))) pa_nil))))
      (pss_cons (ps_set (i := 11) sc_law.nd rfl (.inl rfl) (pe_call G_l_row (hr.mono (by omega)) (by rfl) T.l_row.g T.l_row.kp T.l_row.b .nil pass0 (pa_cons (pv 1) (pa_cons (pv 5) (pa_cons (pv 4) pa_nil)))))
      (pss_cons (ps_if (pt_not (pt_val (pe_call G_l_like (hr.mono (by omega)) (by rfl) T.l_like.g T.l_like.kp T.l_like.b .nil pass0 (pa_cons (pe_lst (pa_cons (pe_call G_is_name (hr.mono (by omega)) (by rfl) T.is_name.g T.is_name.kp T.is_name.b .nil pass0 (pa_cons (pv 10) pa_nil)) (pa_cons (pe_call G_is_row (hr.mono (by omega)) (by rfl) T.is_row.g T.is_row.kp T.is_row.b .nil pass0 (pa_cons (pv 11) (pa_cons (pv 5) (pa_cons (pv 4) pa_nil)))) (pa_cons (pe_call G_is_value (hr.mono (by omega)) (by rfl) T.is_value.g T.is_value.kp T.is_value.b .nil pass0 (pa_cons pe_non (pa_cons (pv 4) pa_nil))) pa_nil)))) (pa_cons (pe_lst (pa_cons pe_bl (pa_cons pe_bl (pa_cons pe_bl pa_nil)))) pa_nil)))))
      (pss_one (ps_ret pe_bl))
      pss_nil)
      (pss_one (ps_if (pt_not (pt_val (pe_call G_l_like (hr.mono (by omega)) (by rfl) T.l_like.g T.l_like.kp T.l_like.b .nil pass0 (pa_cons (pe_lst (pa_cons (pe_call G_is_sign (hr.mono (by omega)) (by rfl) T.is_sign.g T.is_sign.kp T.is_sign.b .nil pass0 (pa_cons (pe_call G_l_draw (hr.mono (by omega)) (by rfl) T.l_draw.g T.l_draw.kp T.l_draw.b .nil pass0 (pa_cons (pv 1) (pa_cons (pv 4) pa_nil))) (pa_cons (pv 4) pa_nil))) (pa_cons (pe_call G_is_number (hr.mono (by omega)) (by rfl) T.is_number.g T.is_number.kp T.is_number.b .nil pass0 (pa_cons (pv 7) (pa_cons (pv 6) (pa_cons (pv 7) pa_nil)))) pa_nil))) (pa_cons (pe_lst (pa_cons pe_bl (pa_cons pe_bl pa_nil))) pa_nil)))))
      (pss_one (ps_ret pe_bl))
      pss_nil)))))))
      (pss_one (ps_ret pe_bl)))))), ?_⟩
  walk_at "wp"
  refine ⟨a, ns, rfl, hS, hlen, fun B H0 s0 hB0 => ?_⟩
  intro kp hp_kp; generalize hh_kp : upd H0 kp _ = H1; obtain ⟨x1, g1⟩ := gen_new hB0 hp_kp hh_kp; clear hh_kp
  refine ⟨by decide, by decide, ?_⟩
  obtain ⟨Pv, hPv⟩ : ∃ M : Nat → L2.St → Hp → Prop, ∀ i σ H2, M i σ H2 ↔ ∃ (its : List V) (z3 z4 z5 z6 z7 z8 z9 z10 z11 : Option V), σ = [some (.ref a), some (.ref B.b), some (.ref kp), z3, z4, z5, z6, z7, z8, z9, z10, z11] ∧ Ext B H0 H2 ∧ cut B.b H2 kp = some (.lst its) ∧ its.length = i ∧ ∀ v ∈ its, Item K kp (cut B.b H2) v := ⟨_, fun _ _ _ => Iff.rfl⟩
  refine lp_it (walk_range (n := 7)) (fun i σ H2 => Pv i σ H2) ((hPv _ _ _).mpr ⟨[], none, none, none, none, none, none, none, none, none, rfl, x1, g1, rfl, fun v hv => by cases hv⟩) (fun _ _ _ _ _ => trivial) (fun i y σ H3 H4 hi h hy => ?_) (fun σ H3 h => ?_)
  · obtain ⟨its, z3, z4, z5, z6, z7, z8, z9, z10, z11, rfl, x3, k3, hl3, hit⟩ := (hPv _ _ _).mp h
    obtain ⟨rfl, rfl⟩ := hy
    walk_at "wp"
    refine ⟨B, _, rfl, x3.bag, by decide, by decide, fun d H5 x5 d0 d1 => ?_⟩
    walk_at "wp"
    refine ⟨B, _, rfl, x5.bag, by decide, by decide, fun d2 H6 x6 e0 e1 => ?_⟩
    intro p7 hp_p7; generalize hh_p7 : upd H6 p7 _ = H7; obtain ⟨x7, g7⟩ := gen_new x6.bag hp_p7 hh_p7; clear hh_p7
    refine ⟨B, p7, _, rfl, x7.bag, .inl (.inl g7), by simp, by simp, fun nv H8 hm x8 => ?_⟩
    obtain ⟨n, rfl, n0, n1⟩ : ∃ n : Int, nv = .int n ∧ 0 ≤ n ∧ n ≤ 8 := by
      simp only [List.mem_cons, List.not_mem_nil, or_false] at hm
      rcases hm with rfl | rfl | rfl | rfl | rfl | rfl | rfl <;> exact ⟨_, rfl, by omega, by omega⟩
    have y8 := x5.trans (x6.trans (x7.trans x8))
    clear hm x5 x6 x7 x8 g7 hp_p7
    refine ⟨B, _, rfl, y8.bag, by decide, by decide, fun d3 H9 x9 f0 f1 => ?_⟩
    refine ⟨d3, rfl, ?_⟩
    intro p10 hp_p10; generalize hh_p10 : upd H9 p10 _ = H10; obtain ⟨x10, g10⟩ := gen_new x9.bag hp_p10 hh_p10; clear hh_p10
    refine ⟨B, p10, _, rfl, x10.bag, .inl (.inl g10), by simp, by simp, fun lv H11 hm x11 => ?_⟩
    obtain ⟨lo, rfl, l0, l1⟩ : ∃ lo : Int, lv = .int lo ∧ -999999998 ≤ lo ∧ lo ≤ 999999990 := by
      simp only [List.mem_cons, List.not_mem_nil, or_false] at hm
      rcases hm with rfl | rfl | rfl | rfl | rfl | rfl | rfl <;> exact ⟨_, rfl, by omega, by omega⟩
    have y11 := y8.trans (x9.trans (x10.trans x11))
    clear hm x9 x10 x11 g10 hp_p10 y8
    refine ⟨B, _, rfl, y11.bag, by decide, by decide, fun d4 H12 x12 h0 h1 => ?_⟩
    intro p13 hp_p13; generalize hh_p13 : upd H12 p13 _ = H13; obtain ⟨x13, g13⟩ := gen_new x12.bag hp_p13 hh_p13; clear hh_p13
    refine ⟨B, p13, _, rfl, x13.bag, .inl (.inl g13), by simp, by simp, fun hv H14 hm x14 => ?_⟩
    obtain ⟨hd, rfl, hd0, hd1⟩ : ∃ hd : Int, hv = .int hd ∧ 0 ≤ hd ∧ hd ≤ 8 := by
      simp only [List.mem_cons, List.not_mem_nil, or_false] at hm
      rcases hm with rfl | rfl | rfl | rfl | rfl | rfl <;> exact ⟨_, rfl, by omega, by omega⟩
    have y14 := y11.trans (x12.trans (x13.trans x14))
    clear hm x12 x13 x14 g13 hp_p13 y11
    refine ⟨lo, rfl, hd, rfl, ?_⟩
    have hk : 2 + d = 2 ∨ 2 + d = 3 := by omega
    refine ⟨B, lo, lo + hd, n, 2 + d, rfl, y14.bag, ⟨by omega, by omega⟩, n0, by omega, hk, fun th H15 x15 kth => ?_⟩
    have y15 := y14.trans x15
    have b15 := y15.bag
    have k15 := y15.same _ _ k3
    have kth0 : Th K H15 th := kth.same cut_out
    have e15 : duesL H15 th lo (lo + hd) n (2 + d) = duesL (cut B.b H15) th lo (lo + hd) n (2 + d) := duesL_same kth.1 cut_out
    refine ⟨th, lo, lo + hd, n, 2 + d, rfl, kth0, fun dl H16 hdl s16 hdv => ?_⟩
    refine ⟨th, lo, lo + hd, n, 2 + d, rfl, kth0.same s16, fun al H17 hal s17 hav => ?_⟩
    rw [duesL_same kth0.1 s16] at hav
    refine ⟨_, _, _, rfl, is_bools hav (by show 5 ≤ 1000; decide), is_bools (s17 _ _ hdv) (by show 5 ≤ 1000; decide), fun H18 s18 => ?_⟩
    walk_at "wp"
    have s2 := s17.trans s18
    have x18 : Ext B H15 H18 := .of_same b15 (s16.trans s2)
    have k18 := x18.same _ _ k15
    have hkb := (cut_some k18).2
    refine ⟨.inl ⟨rfl, _, .inl (.inl (cut_some k18).1)⟩, ?_⟩
    intro pt hp_pt; generalize hh_pt : upd H18 pt _ = H19; obtain ⟨x19, g19⟩ := gen_new x18.bag hp_pt hh_pt; clear hh_pt
    have x19' := x18.trans x19
    refine ⟨_, (cut_some (x19.same _ _ k18)).1, by rw [hl3]; exact Nat.lt_of_lt_of_le (by omega : i < 100000) (by decide), ?_⟩
    refine (hPv _ _ _).mpr ⟨_, _, _, _, _, _, _, _, _, _, rfl, Ext.mut hB0 (x3.trans (y15.trans x19')) hp_kp, by rw [cut_upd hkb]; exact upd_same, by rw [List.length_append, List.length_singleton, hl3], fun v hv => ?_⟩
    rw [cut_upd hkb]
    refine Item.up ?_ (x19.same _ _ k18)
    rcases List.mem_append.mp hv with hv | hv
    · exact (hit v hv).same (y15.trans x19').same
    · cases List.mem_singleton.mp hv
      refine ⟨pt, dl, th, lo, lo + hd, n, 2 + d, rfl, g19, kth.same x19'.same, fun e => ?_, ?_, ⟨n0, n1⟩, hk, by omega⟩
      · rw [e, (cut_some k15).1] at hdl
        cases hdl
      · rw [duesL_same kth.1 x19'.same, ← e15]
        exact x19.same _ _ (cut_of (s2 _ _ hdv) (b15.fresh hdl))
  · obtain ⟨its, z3, z4, z5, z6, z7, z8, z9, z10, z11, rfl, x3, k3, hl3, hit⟩ := (hPv _ _ _).mp h
    walk_at "wp"
    have hkp := (cut_some k3).1
    refine ⟨⟨_, .inl (.inl hkp)⟩, ?_⟩
    obtain ⟨Pw, hPw⟩ : ∃ M : L2.St → Hp → Prop, ∀ σ H2, M σ H2 ↔ ∃ (z3 z4 z5 z6 z7 z8 z9 z10 z11 : Option V), σ = [some (.ref a), some (.ref B.b), some (.ref kp), z3, z4, z5, z6, z7, z8, z9, z10, z11] ∧ Ext B H3 H2 := ⟨_, fun _ _ => Iff.rfl⟩
    refine lp_it (walk_list (xs := its)) (fun _ => Pw) ((hPw _ _).mpr ⟨_, _, _, _, _, _, _, _, _, rfl, Ext.refl x3.bag⟩) (fun _ σ H4 _ h => ?_) (fun i v σ H4 H5 hi h hy => ?_) (fun σ H4 h => ?_)
    · obtain ⟨z3, z4, z5, z6, z7, z8, z9, z10, z11, rfl, x4⟩ := (hPw _ _).mp h
      exact .inl (.inl (cut_some (x4.same _ _ k3)).1)
    · obtain ⟨z3, z4, z5, z6, z7, z8, z9, z10, z11, rfl, x4⟩ := (hPw _ _).mp h
      obtain ⟨rfl, hv⟩ := hy
      obtain ⟨t, dl, x, lo, hi, n, k, rfl, ht, kx, hdk, hdl, ⟨n0, n1⟩, hk, hlh⟩ := (hit v (List.mem_of_getElem? hv)).same x4.same
      have b4 := x4.bag
      have kx0 := kx.same (cut_out (b := B.b) (H := H5))
      walk_at "wp"
      refine ⟨_, .inl (.inl (cut_some ht).1), rfl, ?_⟩
      walk_at "wp"
      refine ⟨x, lo, hi, n, k, rfl, kx0, fun al H6 hal s6 hav => ?_⟩
      rw [duesL_same kx.1 cut_out] at hav
      refine ⟨_, _, _, rfl, is_bools hav (by show 5 ≤ 1000; decide), is_bools (s6 _ _ (cut_some hdl).1) (by show 5 ≤ 1000; decide), fun H7 s7 => ?_⟩
      walk_at "wp"
      have x7 : Ext B H5 H7 := .of_same b4 (s6.trans s7)
      refine ⟨B, _, rfl, x7.bag, by decide, by decide, fun d8 H8 x8 d0 d1 => ⟨d8, rfl, ?_⟩⟩
      refine ⟨B, _, rfl, x8.bag, by omega, by omega, fun z H9 x9 hzl hzc => ?_⟩
      refine ⟨B, n, k, rfl, x9.bag, n0, by omega, hk, fun t2 r H10 _ x10 ht2 hrl hro => ?_⟩
      have hz1 : z.length ≤ 10000 := by omega
      have hz2 : nameB (.str z) = true := by
        show (decide (1 ≤ z.length ∧ z.length ≤ 8) && z.cps.toList.all fun c => decide (c ∈ ABC)) = true
        rw [decide_eq_true (by omega), Bool.true_and, List.all_eq_true]
        exact fun c hc => decide_eq_true (hzc c hc)
      have hrv : ∀ v ∈ rowV r, valB v k = true ∧ Ak K (cut B.b H10) v := fun v hv => by
        obtain ⟨o, ho, rfl⟩ := List.mem_map.mp hv
        cases o with
        | none => exact ⟨rfl, th_non.1⟩
        | some i =>
          have := hro i ho
          exact ⟨decide_eq_true (by omega), th_int.1⟩
      have hrb : rowB (cut B.b H10) (.ref t2) n k = true := by
        have hrl2 : (rowV r).length = r.length := List.length_map _
        rw [rowB_ref ht2, decide_eq_true (by omega), Bool.true_and, List.all_eq_true]
        exact fun v hv => (hrv v hv).1
      have hrt : Th K (cut B.b H10) (.ref t2) := th_tup ht2 (by rw [show (rowV r).length = r.length from List.length_map _]; omega) fun v hv => (hrv v hv).2
      have y10 := x7.trans (x8.trans (x9.trans x10))
      have b10 := y10.bag
      have hrt0 := hrt.same (cut_out (b := B.b) (H := H10))
      have hrb0 : rowB H10 (.ref t2) n k = true := by rw [rowB_same hrt.1 cut_out]; exact hrb
      refine ⟨_, rfl, (th_str hz1).1, fun H11 s11 => ?_⟩
      rw [hz2]
      refine ⟨_, n, k, rfl, hrt0.same s11, fun H12 s12 => ?_⟩
      rw [rowB_same hrt0.1 s11, hrb0]
      refine ⟨_, k, rfl, th_non.1, ?_⟩
      intro p13 hp13 p14 hp14
      rw [show valB .non k = true from rfl] at hp14 ⊢
      refine ⟨_, _, _, rfl, is_bools (bs := [true, true, true]) ((same_upd hp14) _ _ upd_same) (by decide), is_bools (bs := [true, true, true]) upd_same (by decide), fun H15 s15 => ?_⟩
      have s15' := s11.trans (s12.trans ((same_upd hp13).trans ((same_upd hp14).trans s15)))
      have x15 : Ext B H10 H15 := .of_same b10 s15'
      clear hp13 hp14
      walk_at "wp"
      have hn : n = n := rfl
      refine ⟨B, k, rfl, x15.bag, by omega, by omega, fun dd H16 x16 dd0 dd1 => ?_⟩
      refine ⟨_, k, rfl, th_int.1, ?_⟩
      refine ⟨_, lo, hi, rfl, th_int.1, ?_⟩
      rw [show numB (.int dd) 0 (k - 1) = true from decide_eq_true (by omega), show numB (.int hi) lo hi = true from decide_eq_true (by omega)]
      intro p17 hp17 p18 hp18
      refine ⟨_, _, _, rfl, is_bools (bs := [true, true]) ((same_upd hp18) _ _ upd_same) (by decide), is_bools (bs := [true, true]) upd_same (by decide), fun H19 s19 => ?_⟩
      have x19 : Ext B H16 H19 := .of_same x16.bag ((same_upd hp17).trans ((same_upd hp18).trans s19))
      walk_at "wp"
      exact (hPw _ _).mpr ⟨_, _, _, _, _, _, _, _, _, rfl, x4.trans (y10.trans (x15.trans (x16.trans x19)))⟩
    · obtain ⟨z3, z4, z5, z6, z7, z8, z9, z10, z11, rfl, x4⟩ := (hPw _ _).mp h
      walk_at "wp"
      exact q _
end
end Kx

set_option Elab.async false
set_option linter.all false
set_option maxRecDepth 100000
set_option maxHeartbeats 4000000
namespace Kx
open PySem PySem.Spec PyProof.Rows L2
theorem kb_one {K : PySem.W.Frag} {C : Addr} {c : String} (hm : PySem.W.kitMeta c = true) (h : PySem.W.subIn K (.ref C) (.type c) = some false) : PySem.W.kitOne K (.ref C) (.type c) = some false := by
  unfold PySem.W.kitOne
  rw [if_neg (by rw [beq_iff_eq]; exact fun e => nomatch e)]
  show (if PySem.W.kitMeta c = true then PySem.W.subIn K (.ref C) (.type c) else none) = some false
  rw [if_pos hm]
  exact h
theorem kb_of {K : PySem.W.Frag} {C : Addr} (h1 : PySem.W.subIn K (.ref C) (.type "bool") = some false) (h2 : PySem.W.subIn K (.ref C) (.type "int") = some false) (h3 : PySem.W.subIn K (.ref C) (.type "str") = some false) (h4 : PySem.W.subIn K (.ref C) (.type "list") = some false) (h5 : PySem.W.subIn K (.ref C) (.type "tuple") = some false) :
    ∀ c, Kc c = true → PySem.W.kitOne K (.ref C) (.type c) = some false := fun c h => by
  have h : c ∈ ["bool", "int", "str", "list", "tuple"] := of_decide_eq_true h
  simp only [List.mem_cons, List.not_mem_nil, or_false] at h
  rcases h with rfl | rfl | rfl | rfl | rfl
  · exact kb_one (by decide +kernel) h1
  · exact kb_one (by decide +kernel) h2
  · exact kb_one (by decide +kernel) h3
  · exact kb_one (by decide +kernel) h4
  · exact kb_one (by decide +kernel) h5
theorem all_mk {l : PySem.W.OpenLaw} {w : World} {K : PySem.W.Frag} {h : Heap} {mg : Str → Option Value} {fa : Addr} (X : K.In h) (G : h.Ns mainGlobals mg) (hfa : mg "law" = some (.ref fa))
    {f_is_number : Addr} {od_is_number an_is_number : Option Addr} {sl_is_number : Array (Option Value)} {oc_is_number dc_is_number pm_is_number cd_is_number ct_is_number : Value}
    {kV_is_number : Value}
    {f_is_name : Addr} {od_is_name an_is_name : Option Addr} {sl_is_name : Array (Option Value)} {oc_is_name dc_is_name pm_is_name cd_is_name ct_is_name : Value}
    {kV_is_name : Value}
    {f_is_sign : Addr} {od_is_sign an_is_sign : Option Addr} {sl_is_sign : Array (Option Value)} {oc_is_sign dc_is_sign pm_is_sign cd_is_sign ct_is_sign : Value}
    {kV_is_sign : Value}
    {f_is_value : Addr} {od_is_value an_is_value : Option Addr} {sl_is_value : Array (Option Value)} {oc_is_value dc_is_value pm_is_value cd_is_value ct_is_value : Value}
    {kV_is_value : Value}
    {f_is_row : Addr} {od_is_row an_is_row : Option Addr} {sl_is_row : Array (Option Value)} {oc_is_row dc_is_row pm_is_row cd_is_row ct_is_row : Value}
    {kV_is_row : Value}
    {f_l_bag : Addr} {od_l_bag an_l_bag : Option Addr} {sl_l_bag : Array (Option Value)} {oc_l_bag dc_l_bag pm_l_bag cd_l_bag ct_l_bag : Value}
    {kV_l_bag : Value}
    {f_l_draw : Addr} {od_l_draw an_l_draw : Option Addr} {sl_l_draw : Array (Option Value)} {oc_l_draw dc_l_draw pm_l_draw cd_l_draw ct_l_draw : Value}
    {kV_l_draw : Value}
    {f_l_of : Addr} {od_l_of an_l_of : Option Addr} {sl_l_of : Array (Option Value)} {oc_l_of dc_l_of pm_l_of cd_l_of ct_l_of : Value}
    {kV_l_of : Value}
    {f_l_like : Addr} {od_l_like an_l_like : Option Addr} {sl_l_like : Array (Option Value)} {oc_l_like dc_l_like pm_l_like cd_l_like ct_l_like : Value}
    {kV_l_like : Value}
    {f_l_any : Addr} {od_l_any an_l_any : Option Addr} {sl_l_any : Array (Option Value)} {oc_l_any dc_l_any pm_l_any cd_l_any ct_l_any : Value}
    {kV_l_any : Value}
    {f_l_is_number : Addr} {od_l_is_number an_l_is_number : Option Addr} {sl_l_is_number : Array (Option Value)} {oc_l_is_number dc_l_is_number pm_l_is_number cd_l_is_number ct_l_is_number : Value}
    {kV_l_is_number : Value}
    {f_l_is_sign : Addr} {od_l_is_sign an_l_is_sign : Option Addr} {sl_l_is_sign : Array (Option Value)} {oc_l_is_sign dc_l_is_sign pm_l_is_sign cd_l_is_sign ct_l_is_sign : Value}
    {kV_l_is_sign : Value}
    {f_l_is_value : Addr} {od_l_is_value an_l_is_value : Option Addr} {sl_l_is_value : Array (Option Value)} {oc_l_is_value dc_l_is_value pm_l_is_value cd_l_is_value ct_l_is_value : Value}
    {kV_l_is_value : Value}
    {f_l_is_row : Addr} {od_l_is_row an_l_is_row : Option Addr} {sl_l_is_row : Array (Option Value)} {oc_l_is_row dc_l_is_row pm_l_is_row cd_l_is_row ct_l_is_row : Value}
    {kV_l_is_row : Value}
    {f_l_is_name : Addr} {od_l_is_name an_l_is_name : Option Addr} {sl_l_is_name : Array (Option Value)} {oc_l_is_name dc_l_is_name pm_l_is_name cd_l_is_name ct_l_is_name : Value}
    {kV_l_is_name : Value}
    {f_l_values : Addr} {od_l_values an_l_values : Option Addr} {sl_l_values : Array (Option Value)} {oc_l_values dc_l_values pm_l_values cd_l_values ct_l_values : Value}
    {kV_l_values : Value}
    {f_l_row : Addr} {od_l_row an_l_row : Option Addr} {sl_l_row : Array (Option Value)} {oc_l_row dc_l_row pm_l_row cd_l_row ct_l_row : Value}
    {kV_l_row : Value}
    {f_l_odd_row : Addr} {od_l_odd_row an_l_odd_row : Option Addr} {sl_l_odd_row : Array (Option Value)} {oc_l_odd_row dc_l_odd_row pm_l_odd_row cd_l_odd_row ct_l_odd_row : Value}
    {kV_l_odd_row : Value}
    {f_l_letters : Addr} {od_l_letters an_l_letters : Option Addr} {sl_l_letters : Array (Option Value)} {oc_l_letters dc_l_letters pm_l_letters cd_l_letters ct_l_letters : Value}
    {kV_l_letters : Value}
    {f_l_nearly_name : Addr} {od_l_nearly_name an_l_nearly_name : Option Addr} {sl_l_nearly_name : Array (Option Value)} {oc_l_nearly_name dc_l_nearly_name pm_l_nearly_name cd_l_nearly_name ct_l_nearly_name : Value}
    {kV_l_nearly_name : Value}
    {f_l_deep : Addr} {od_l_deep an_l_deep : Option Addr} {sl_l_deep : Array (Option Value)} {oc_l_deep dc_l_deep pm_l_deep cd_l_deep ct_l_deep : Value}
    {kV_l_deep : Value}
    {f_l_nearly_row : Addr} {od_l_nearly_row an_l_nearly_row : Option Addr} {sl_l_nearly_row : Array (Option Value)} {oc_l_nearly_row dc_l_nearly_row pm_l_nearly_row cd_l_nearly_row ct_l_nearly_row : Value}
    {kV_l_nearly_row : Value}
    {f_l_value : Addr} {od_l_value an_l_value : Option Addr} {sl_l_value : Array (Option Value)} {oc_l_value dc_l_value pm_l_value cd_l_value ct_l_value : Value}
    {kV_l_value : Value}
    {f_l_asks : Addr} {od_l_asks an_l_asks : Option Addr} {sl_l_asks : Array (Option Value)} {oc_l_asks dc_l_asks pm_l_asks cd_l_asks ct_l_asks : Value}
    {kV_l_asks : Value}
    {f_l_dues : Addr} {od_l_dues an_l_dues : Option Addr} {sl_l_dues : Array (Option Value)} {oc_l_dues dc_l_dues pm_l_dues cd_l_dues ct_l_dues : Value}
    {kV_l_dues : Value}
    {f_law : Addr} {od_law an_law : Option Addr} {sl_law : Array (Option Value)} {oc_law dc_law pm_law cd_law ct_law : Value}
    {kV_law : Value}
    {t_LETTERS : Tok}
    {t_MOST_LETTERS : Tok}
    {IO_C IO_f IO_N : Addr} {IO_nm IO_q : Str} {IO_bs IO_sub : List Value} {IO_sn : List Str} {IO_ab : Bool} {IO_col : Option Bool} {IO_dd IO_od IO_an : Option Addr} {IO_m0 IO_m1 IO_m2 IO_m3 IO_m5 : Option Value} {IO_sl : Array (Option Value)} {IO_oc IO_kV IO_dc IO_pm IO_cd IO_ct : Value}
    {IO_B0 : Addr}
    (h_a_is_number : PySem.W.nsIn K mainGlobals "is_number" = some (some (.ref f_is_number)))
    (h_l_is_number : K.lookup f_is_number = some ⟨oc_is_number, od_is_number, .func (PySem.W.fnOf "is_number" "is_number" (defArgs s_is_number) (defBody s_is_number) (defScope s_is_number) .none kV_is_number dc_is_number pm_is_number an_is_number cd_is_number ct_is_number), sl_is_number⟩)
    (h_c_is_number : PySem.W.codeIn K cd_is_number "is_number" = true)
    (h_k_is_number : PySem.W.keepIn K (.ref f_is_number) = true)
    (h_a_is_name : PySem.W.nsIn K mainGlobals "is_name" = some (some (.ref f_is_name)))
    (h_l_is_name : K.lookup f_is_name = some ⟨oc_is_name, od_is_name, .func (PySem.W.fnOf "is_name" "is_name" (defArgs s_is_name) (defBody s_is_name) (defScope s_is_name) .none kV_is_name dc_is_name pm_is_name an_is_name cd_is_name ct_is_name), sl_is_name⟩)
    (h_c_is_name : PySem.W.codeIn K cd_is_name "is_name" = true)
    (h_k_is_name : PySem.W.keepIn K (.ref f_is_name) = true)
    (h_a_is_sign : PySem.W.nsIn K mainGlobals "is_sign" = some (some (.ref f_is_sign)))
    (h_l_is_sign : K.lookup f_is_sign = some ⟨oc_is_sign, od_is_sign, .func (PySem.W.fnOf "is_sign" "is_sign" (defArgs s_is_sign) (defBody s_is_sign) (defScope s_is_sign) .none kV_is_sign dc_is_sign pm_is_sign an_is_sign cd_is_sign ct_is_sign), sl_is_sign⟩)
    (h_c_is_sign : PySem.W.codeIn K cd_is_sign "is_sign" = true)
    (h_k_is_sign : PySem.W.keepIn K (.ref f_is_sign) = true)
    (h_a_is_value : PySem.W.nsIn K mainGlobals "is_value" = some (some (.ref f_is_value)))
    (h_l_is_value : K.lookup f_is_value = some ⟨oc_is_value, od_is_value, .func (PySem.W.fnOf "is_value" "is_value" (defArgs s_is_value) (defBody s_is_value) (defScope s_is_value) .none kV_is_value dc_is_value pm_is_value an_is_value cd_is_value ct_is_value), sl_is_value⟩)
    (h_c_is_value : PySem.W.codeIn K cd_is_value "is_value" = true)
    (h_k_is_value : PySem.W.keepIn K (.ref f_is_value) = true)
    (h_a_is_row : PySem.W.nsIn K mainGlobals "is_row" = some (some (.ref f_is_row)))
    (h_l_is_row : K.lookup f_is_row = some ⟨oc_is_row, od_is_row, .func (PySem.W.fnOf "is_row" "is_row" (defArgs s_is_row) (defBody s_is_row) (defScope s_is_row) .none kV_is_row dc_is_row pm_is_row an_is_row cd_is_row ct_is_row), sl_is_row⟩)
    (h_c_is_row : PySem.W.codeIn K cd_is_row "is_row" = true)
    (h_k_is_row : PySem.W.keepIn K (.ref f_is_row) = true)
    (h_a_l_bag : PySem.W.nsIn K mainGlobals "_law_bag" = some (some (.ref f_l_bag)))
    (h_l_l_bag : K.lookup f_l_bag = some ⟨oc_l_bag, od_l_bag, .func (PySem.W.fnOf "_law_bag" "_law_bag" (defArgs s_l_bag) (defBody s_l_bag) (defScope s_l_bag) .none kV_l_bag dc_l_bag pm_l_bag an_l_bag cd_l_bag ct_l_bag), sl_l_bag⟩)
    (h_c_l_bag : PySem.W.codeIn K cd_l_bag "_law_bag" = true)
    (h_k_l_bag : PySem.W.keepIn K (.ref f_l_bag) = true)
    (h_a_l_draw : PySem.W.nsIn K mainGlobals "_law_draw" = some (some (.ref f_l_draw)))
    (h_l_l_draw : K.lookup f_l_draw = some ⟨oc_l_draw, od_l_draw, .func (PySem.W.fnOf "_law_draw" "_law_draw" (defArgs s_l_draw) (defBody s_l_draw) (defScope s_l_draw) .none kV_l_draw dc_l_draw pm_l_draw an_l_draw cd_l_draw ct_l_draw), sl_l_draw⟩)
    (h_c_l_draw : PySem.W.codeIn K cd_l_draw "_law_draw" = true)
    (h_k_l_draw : PySem.W.keepIn K (.ref f_l_draw) = true)
    (h_a_l_of : PySem.W.nsIn K mainGlobals "_law_of" = some (some (.ref f_l_of)))
    (h_l_l_of : K.lookup f_l_of = some ⟨oc_l_of, od_l_of, .func (PySem.W.fnOf "_law_of" "_law_of" (defArgs s_l_of) (defBody s_l_of) (defScope s_l_of) .none kV_l_of dc_l_of pm_l_of an_l_of cd_l_of ct_l_of), sl_l_of⟩)
    (h_c_l_of : PySem.W.codeIn K cd_l_of "_law_of" = true)
    (h_k_l_of : PySem.W.keepIn K (.ref f_l_of) = true)
    (h_a_l_like : PySem.W.nsIn K mainGlobals "_law_like" = some (some (.ref f_l_like)))
    (h_l_l_like : K.lookup f_l_like = some ⟨oc_l_like, od_l_like, .func (PySem.W.fnOf "_law_like" "_law_like" (defArgs s_l_like) (defBody s_l_like) (defScope s_l_like) .none kV_l_like dc_l_like pm_l_like an_l_like cd_l_like ct_l_like), sl_l_like⟩)
    (h_c_l_like : PySem.W.codeIn K cd_l_like "_law_like" = true)
    (h_k_l_like : PySem.W.keepIn K (.ref f_l_like) = true)
    (h_a_l_any : PySem.W.nsIn K mainGlobals "_law_any" = some (some (.ref f_l_any)))
    (h_l_l_any : K.lookup f_l_any = some ⟨oc_l_any, od_l_any, .func (PySem.W.fnOf "_law_any" "_law_any" (defArgs s_l_any) (defBody s_l_any) (defScope s_l_any) .none kV_l_any dc_l_any pm_l_any an_l_any cd_l_any ct_l_any), sl_l_any⟩)
    (h_c_l_any : PySem.W.codeIn K cd_l_any "_law_any" = true)
    (h_k_l_any : PySem.W.keepIn K (.ref f_l_any) = true)
    (h_a_l_is_number : PySem.W.nsIn K mainGlobals "_law_is_number" = some (some (.ref f_l_is_number)))
    (h_l_l_is_number : K.lookup f_l_is_number = some ⟨oc_l_is_number, od_l_is_number, .func (PySem.W.fnOf "_law_is_number" "_law_is_number" (defArgs s_l_is_number) (defBody s_l_is_number) (defScope s_l_is_number) .none kV_l_is_number dc_l_is_number pm_l_is_number an_l_is_number cd_l_is_number ct_l_is_number), sl_l_is_number⟩)
    (h_c_l_is_number : PySem.W.codeIn K cd_l_is_number "_law_is_number" = true)
    (h_k_l_is_number : PySem.W.keepIn K (.ref f_l_is_number) = true)
    (h_a_l_is_sign : PySem.W.nsIn K mainGlobals "_law_is_sign" = some (some (.ref f_l_is_sign)))
    (h_l_l_is_sign : K.lookup f_l_is_sign = some ⟨oc_l_is_sign, od_l_is_sign, .func (PySem.W.fnOf "_law_is_sign" "_law_is_sign" (defArgs s_l_is_sign) (defBody s_l_is_sign) (defScope s_l_is_sign) .none kV_l_is_sign dc_l_is_sign pm_l_is_sign an_l_is_sign cd_l_is_sign ct_l_is_sign), sl_l_is_sign⟩)
    (h_c_l_is_sign : PySem.W.codeIn K cd_l_is_sign "_law_is_sign" = true)
    (h_k_l_is_sign : PySem.W.keepIn K (.ref f_l_is_sign) = true)
    (h_a_l_is_value : PySem.W.nsIn K mainGlobals "_law_is_value" = some (some (.ref f_l_is_value)))
    (h_l_l_is_value : K.lookup f_l_is_value = some ⟨oc_l_is_value, od_l_is_value, .func (PySem.W.fnOf "_law_is_value" "_law_is_value" (defArgs s_l_is_value) (defBody s_l_is_value) (defScope s_l_is_value) .none kV_l_is_value dc_l_is_value pm_l_is_value an_l_is_value cd_l_is_value ct_l_is_value), sl_l_is_value⟩)
    (h_c_l_is_value : PySem.W.codeIn K cd_l_is_value "_law_is_value" = true)
    (h_k_l_is_value : PySem.W.keepIn K (.ref f_l_is_value) = true)
    (h_a_l_is_row : PySem.W.nsIn K mainGlobals "_law_is_row" = some (some (.ref f_l_is_row)))
    (h_l_l_is_row : K.lookup f_l_is_row = some ⟨oc_l_is_row, od_l_is_row, .func (PySem.W.fnOf "_law_is_row" "_law_is_row" (defArgs s_l_is_row) (defBody s_l_is_row) (defScope s_l_is_row) .none kV_l_is_row dc_l_is_row pm_l_is_row an_l_is_row cd_l_is_row ct_l_is_row), sl_l_is_row⟩)
    (h_c_l_is_row : PySem.W.codeIn K cd_l_is_row "_law_is_row" = true)
    (h_k_l_is_row : PySem.W.keepIn K (.ref f_l_is_row) = true)
    (h_a_l_is_name : PySem.W.nsIn K mainGlobals "_law_is_name" = some (some (.ref f_l_is_name)))
    (h_l_l_is_name : K.lookup f_l_is_name = some ⟨oc_l_is_name, od_l_is_name, .func (PySem.W.fnOf "_law_is_name" "_law_is_name" (defArgs s_l_is_name) (defBody s_l_is_name) (defScope s_l_is_name) .none kV_l_is_name dc_l_is_name pm_l_is_name an_l_is_name cd_l_is_name ct_l_is_name), sl_l_is_name⟩)
    (h_c_l_is_name : PySem.W.codeIn K cd_l_is_name "_law_is_name" = true)
    (h_k_l_is_name : PySem.W.keepIn K (.ref f_l_is_name) = true)
    (h_a_l_values : PySem.W.nsIn K mainGlobals "_law_values" = some (some (.ref f_l_values)))
    (h_l_l_values : K.lookup f_l_values = some ⟨oc_l_values, od_l_values, .func (PySem.W.fnOf "_law_values" "_law_values" (defArgs s_l_values) (defBody s_l_values) (defScope s_l_values) .none kV_l_values dc_l_values pm_l_values an_l_values cd_l_values ct_l_values), sl_l_values⟩)
    (h_c_l_values : PySem.W.codeIn K cd_l_values "_law_values" = true)
    (h_k_l_values : PySem.W.keepIn K (.ref f_l_values) = true)
    (h_a_l_row : PySem.W.nsIn K mainGlobals "_law_row" = some (some (.ref f_l_row)))
    (h_l_l_row : K.lookup f_l_row = some ⟨oc_l_row, od_l_row, .func (PySem.W.fnOf "_law_row" "_law_row" (defArgs s_l_row) (defBody s_l_row) (defScope s_l_row) .none kV_l_row dc_l_row pm_l_row an_l_row cd_l_row ct_l_row), sl_l_row⟩)
    (h_c_l_row : PySem.W.codeIn K cd_l_row "_law_row" = true)
    (h_k_l_row : PySem.W.keepIn K (.ref f_l_row) = true)
    (h_a_l_odd_row : PySem.W.nsIn K mainGlobals "_law_odd_row" = some (some (.ref f_l_odd_row)))
    (h_l_l_odd_row : K.lookup f_l_odd_row = some ⟨oc_l_odd_row, od_l_odd_row, .func (PySem.W.fnOf "_law_odd_row" "_law_odd_row" (defArgs s_l_odd_row) (defBody s_l_odd_row) (defScope s_l_odd_row) .none kV_l_odd_row dc_l_odd_row pm_l_odd_row an_l_odd_row cd_l_odd_row ct_l_odd_row), sl_l_odd_row⟩)
    (h_c_l_odd_row : PySem.W.codeIn K cd_l_odd_row "_law_odd_row" = true)
    (h_k_l_odd_row : PySem.W.keepIn K (.ref f_l_odd_row) = true)
    (h_a_l_letters : PySem.W.nsIn K mainGlobals "_law_letters" = some (some (.ref f_l_letters)))
    (h_l_l_letters : K.lookup f_l_letters = some ⟨oc_l_letters, od_l_letters, .func (PySem.W.fnOf "_law_letters" "_law_letters" (defArgs s_l_letters) (defBody s_l_letters) (defScope s_l_letters) .none kV_l_letters dc_l_letters pm_l_letters an_l_letters cd_l_letters ct_l_letters), sl_l_letters⟩)
    (h_c_l_letters : PySem.W.codeIn K cd_l_letters "_law_letters" = true)
    (h_k_l_letters : PySem.W.keepIn K (.ref f_l_letters) = true)
    (h_a_l_nearly_name : PySem.W.nsIn K mainGlobals "_law_nearly_name" = some (some (.ref f_l_nearly_name)))
    (h_l_l_nearly_name : K.lookup f_l_nearly_name = some ⟨oc_l_nearly_name, od_l_nearly_name, .func (PySem.W.fnOf "_law_nearly_name" "_law_nearly_name" (defArgs s_l_nearly_name) (defBody s_l_nearly_name) (defScope s_l_nearly_name) .none kV_l_nearly_name dc_l_nearly_name pm_l_nearly_name an_l_nearly_name cd_l_nearly_name ct_l_nearly_name), sl_l_nearly_name⟩)
    (h_c_l_nearly_name : PySem.W.codeIn K cd_l_nearly_name "_law_nearly_name" = true)
    (h_k_l_nearly_name : PySem.W.keepIn K (.ref f_l_nearly_name) = true)
    (h_a_l_deep : PySem.W.nsIn K mainGlobals "_law_deep" = some (some (.ref f_l_deep)))
    (h_l_l_deep : K.lookup f_l_deep = some ⟨oc_l_deep, od_l_deep, .func (PySem.W.fnOf "_law_deep" "_law_deep" (defArgs s_l_deep) (defBody s_l_deep) (defScope s_l_deep) .none kV_l_deep dc_l_deep pm_l_deep an_l_deep cd_l_deep ct_l_deep), sl_l_deep⟩)
    (h_c_l_deep : PySem.W.codeIn K cd_l_deep "_law_deep" = true)
    (h_k_l_deep : PySem.W.keepIn K (.ref f_l_deep) = true)
    (h_a_l_nearly_row : PySem.W.nsIn K mainGlobals "_law_nearly_row" = some (some (.ref f_l_nearly_row)))
    (h_l_l_nearly_row : K.lookup f_l_nearly_row = some ⟨oc_l_nearly_row, od_l_nearly_row, .func (PySem.W.fnOf "_law_nearly_row" "_law_nearly_row" (defArgs s_l_nearly_row) (defBody s_l_nearly_row) (defScope s_l_nearly_row) .none kV_l_nearly_row dc_l_nearly_row pm_l_nearly_row an_l_nearly_row cd_l_nearly_row ct_l_nearly_row), sl_l_nearly_row⟩)
    (h_c_l_nearly_row : PySem.W.codeIn K cd_l_nearly_row "_law_nearly_row" = true)
    (h_k_l_nearly_row : PySem.W.keepIn K (.ref f_l_nearly_row) = true)
    (h_a_l_value : PySem.W.nsIn K mainGlobals "_law_value" = some (some (.ref f_l_value)))
    (h_l_l_value : K.lookup f_l_value = some ⟨oc_l_value, od_l_value, .func (PySem.W.fnOf "_law_value" "_law_value" (defArgs s_l_value) (defBody s_l_value) (defScope s_l_value) .none kV_l_value dc_l_value pm_l_value an_l_value cd_l_value ct_l_value), sl_l_value⟩)
    (h_c_l_value : PySem.W.codeIn K cd_l_value "_law_value" = true)
    (h_k_l_value : PySem.W.keepIn K (.ref f_l_value) = true)
    (h_a_l_asks : PySem.W.nsIn K mainGlobals "_law_asks" = some (some (.ref f_l_asks)))
    (h_l_l_asks : K.lookup f_l_asks = some ⟨oc_l_asks, od_l_asks, .func (PySem.W.fnOf "_law_asks" "_law_asks" (defArgs s_l_asks) (defBody s_l_asks) (defScope s_l_asks) .none kV_l_asks dc_l_asks pm_l_asks an_l_asks cd_l_asks ct_l_asks), sl_l_asks⟩)
    (h_c_l_asks : PySem.W.codeIn K cd_l_asks "_law_asks" = true)
    (h_k_l_asks : PySem.W.keepIn K (.ref f_l_asks) = true)
    (h_a_l_dues : PySem.W.nsIn K mainGlobals "_law_dues" = some (some (.ref f_l_dues)))
    (h_l_l_dues : K.lookup f_l_dues = some ⟨oc_l_dues, od_l_dues, .func (PySem.W.fnOf "_law_dues" "_law_dues" (defArgs s_l_dues) (defBody s_l_dues) (defScope s_l_dues) .none kV_l_dues dc_l_dues pm_l_dues an_l_dues cd_l_dues ct_l_dues), sl_l_dues⟩)
    (h_c_l_dues : PySem.W.codeIn K cd_l_dues "_law_dues" = true)
    (h_k_l_dues : PySem.W.keepIn K (.ref f_l_dues) = true)
    (h_a_law : PySem.W.nsIn K mainGlobals "law" = some (some (.ref f_law)))
    (h_l_law : K.lookup f_law = some ⟨oc_law, od_law, .func (PySem.W.fnOf "law" "law" (defArgs s_law) (defBody s_law) (defScope s_law) .none kV_law dc_law pm_law an_law cd_law ct_law), sl_law⟩)
    (h_c_law : PySem.W.codeIn K cd_law "law" = true)
    (h_k_law : PySem.W.keepIn K (.ref f_law) = true)
    (h_z_isinstance : PySem.W.nsIn K mainGlobals "isinstance" = some none)
    (h_z_int : PySem.W.nsIn K mainGlobals "int" = some none)
    (h_z_bool : PySem.W.nsIn K mainGlobals "bool" = some none)
    (h_z_all : PySem.W.nsIn K mainGlobals "all" = some none)
    (h_z_str : PySem.W.nsIn K mainGlobals "str" = some none)
    (h_z_len : PySem.W.nsIn K mainGlobals "len" = some none)
    (h_z_tuple : PySem.W.nsIn K mainGlobals "tuple" = some none)
    (h_z_list : PySem.W.nsIn K mainGlobals "list" = some none)
    (h_z_zip : PySem.W.nsIn K mainGlobals "zip" = some none)
    (h_z_range : PySem.W.nsIn K mainGlobals "range" = some none)
    (h_c_LETTERS : PySem.W.nsIn K mainGlobals "LETTERS" = some (some (.str "abcdefghijklmnopqrstuvwxyz" t_LETTERS)))
    (h_c_MOST_LETTERS : PySem.W.nsIn K mainGlobals "MOST_LETTERS" = some (some (.int 8 t_MOST_LETTERS)))
    (h_IO_g : PySem.W.nsIn K mainGlobals "InvalidOrder" = some (some (.ref IO_C)))
    (h_IO_x : K.lookup IO_C = some (excClassObj IO_nm IO_q IO_C IO_N IO_bs [.ref IO_B0, .type "ValueError", .type "Exception", .type "BaseException", .type "object"] true IO_sn IO_sub IO_ab IO_col IO_dd IO_m0 IO_m1 IO_m2 IO_m3 IO_m5 "ValueError.__new__"))
    (h_IO_sa : PySem.W.findIn K (.ref IO_C) "__setattr__" = some (some (.builtin "object.__setattr__")))
    (h_IO_eC : PySem.W.subIn K (.ref IO_C) (.type "BaseException") = some true)
    (h_IO_tC : PySem.W.typeIn K (.ref IO_C) = some (.type "type"))
    (h_IO_kC : PySem.W.keepIn K (.ref IO_C) = true)
    (h_IO_ga : PySem.W.findIn K (.ref IO_C) "__getattribute__" = some (some (.builtin "BaseException.__getattribute__")))
    (h_IO_gg : PySem.W.findIn K (.ref IO_C) "__getattr__" = some none)
    (h_IO_hd : PySem.W.hasDictIn K IO_C = true)
    (h_IO_hc : PySem.W.findIn K (.ref IO_C) "__class__" = some (some (.builtin "object.__class__")))
    (h_IO_hn : PySem.W.specialIn K (.builtin "object.__class__") "__get__" = some (some (.builtin "getset_descriptor.__get__")))
    (h_IO_ht : PySem.W.takesIn K (.builtin "object.__class__") = some true)
    (h_IO_hm : PySem.W.mroIn K IO_C (.type "object") = some true)
    (h_IO_i : PySem.W.findIn K (.ref IO_C) "__init__" = some (some (.ref IO_f)))
    (h_IO_t : PySem.W.typeIn K (.ref IO_f) = some (.type "function"))
    (h_IO_l : K.lookup IO_f = some ⟨IO_oc, IO_od, .func (PySem.W.fnOf "__init__" "InvalidOrder.__init__" (defArgs (inClass (topS 10) 0)) (defBody (inClass (topS 10) 0)) (defScope (inClass (topS 10) 0)) .none IO_kV IO_dc IO_pm IO_an IO_cd IO_ct), IO_sl⟩)
    (h_IO_c : PySem.W.codeIn K IO_cd "InvalidOrder.__init__" = true)
    (h_IO_k : PySem.W.keepIn K (.ref IO_f) = true)
    (h_IO_n : PySem.W.findIn K (.ref IO_C) "code" = some none)
    (h_IO_sbool : PySem.W.subIn K (.ref IO_C) (.type "bool") = some false)
    (h_IO_sint : PySem.W.subIn K (.ref IO_C) (.type "int") = some false)
    (h_IO_sstr : PySem.W.subIn K (.ref IO_C) (.type "str") = some false)
    (h_IO_slist : PySem.W.subIn K (.ref IO_C) (.type "list") = some false)
    (h_IO_stuple : PySem.W.subIn K (.ref IO_C) (.type "tuple") = some false) :
    ∃ fd : FuncData, (∀ (s : Shared) (v : Value), BindsTo s fd ⟨[v], []⟩ [("_law_script", v)]) ∧ ∀ base : Heap, K.In base → base.Ns mainGlobals mg → FnOk l.prog w K mg base CX0 8 fa fd ["_law_script"] (sp_law K) := by
  have e := hfa.symm.trans (PySem.W.mg_of X G h_a_law)
  cases e
  have F_is_number := fun_mk (st := s_is_number) h_l_is_number h_c_is_number h_k_is_number
  have b_is_number := F_is_number.binds (ps := ["value", "least", "most"]) fun _ _ _ _ _ _ us hl => match us, hl with | [_, _, _], _ => rfl
  have F_is_name := fun_mk (st := s_is_name) h_l_is_name h_c_is_name h_k_is_name
  have b_is_name := F_is_name.binds (ps := ["value"]) fun _ _ _ _ _ _ us hl => match us, hl with | [_], _ => rfl
  have F_is_sign := fun_mk (st := s_is_sign) h_l_is_sign h_c_is_sign h_k_is_sign
  have b_is_sign := F_is_sign.binds (ps := ["value", "signs"]) fun _ _ _ _ _ _ us hl => match us, hl with | [_, _], _ => rfl
  have F_is_value := fun_mk (st := s_is_value) h_l_is_value h_c_is_value h_k_is_value
  have b_is_value := F_is_value.binds (ps := ["value", "signs"]) fun _ _ _ _ _ _ us hl => match us, hl with | [_, _], _ => rfl
  have F_is_row := fun_mk (st := s_is_row) h_l_is_row h_c_is_row h_k_is_row
  have b_is_row := F_is_row.binds (ps := ["value", "inputs", "signs"]) fun _ _ _ _ _ _ us hl => match us, hl with | [_, _, _], _ => rfl
  have F_l_bag := fun_mk (st := s_l_bag) h_l_l_bag h_c_l_bag h_k_l_bag
  have b_l_bag := F_l_bag.binds (ps := ["_law_script"]) fun _ _ _ _ _ _ us hl => match us, hl with | [_], _ => rfl
  have F_l_draw := fun_mk (st := s_l_draw) h_l_l_draw h_c_l_draw h_k_l_draw
  have b_l_draw := F_l_draw.binds (ps := ["_law_bag_here", "_law_size"]) fun _ _ _ _ _ _ us hl => match us, hl with | [_, _], _ => rfl
  have F_l_of := fun_mk (st := s_l_of) h_l_l_of h_c_l_of h_k_l_of
  have b_l_of := F_l_of.binds (ps := ["_law_bag_here", "_law_things"]) fun _ _ _ _ _ _ us hl => match us, hl with | [_, _], _ => rfl
  have F_l_like := fun_mk (st := s_l_like) h_l_l_like h_c_l_like h_k_l_like
  have b_l_like := F_l_like.binds (ps := ["_law_found", "_law_due"]) fun _ _ _ _ _ _ us hl => match us, hl with | [_, _], _ => rfl
  have F_l_any := fun_mk (st := s_l_any) h_l_l_any h_c_l_any h_k_l_any
  have b_l_any := F_l_any.binds (ps := ["_law_bag_here", "_law_deep_here"]) fun _ _ _ _ _ _ us hl => match us, hl with | [_, _], _ => rfl
  have F_l_is_number := fun_mk (st := s_l_is_number) h_l_l_is_number h_c_l_is_number h_k_l_is_number
  have b_l_is_number := F_l_is_number.binds (ps := ["_law_value_here"]) fun _ _ _ _ _ _ us hl => match us, hl with | [_], _ => rfl
  have F_l_is_sign := fun_mk (st := s_l_is_sign) h_l_l_is_sign h_c_l_is_sign h_k_l_is_sign
  have b_l_is_sign := F_l_is_sign.binds (ps := ["_law_value_here", "_law_base"]) fun _ _ _ _ _ _ us hl => match us, hl with | [_, _], _ => rfl
  have F_l_is_value := fun_mk (st := s_l_is_value) h_l_l_is_value h_c_l_is_value h_k_l_is_value
  have b_l_is_value := F_l_is_value.binds (ps := ["_law_value_here", "_law_base"]) fun _ _ _ _ _ _ us hl => match us, hl with | [_, _], _ => rfl
  have F_l_is_row := fun_mk (st := s_l_is_row) h_l_l_is_row h_c_l_is_row h_k_l_is_row
  have b_l_is_row := F_l_is_row.binds (ps := ["_law_value_here", "_law_n", "_law_base"]) fun _ _ _ _ _ _ us hl => match us, hl with | [_, _, _], _ => rfl
  have F_l_is_name := fun_mk (st := s_l_is_name) h_l_l_is_name h_c_l_is_name h_k_l_is_name
  have b_l_is_name := F_l_is_name.binds (ps := ["_law_value_here"]) fun _ _ _ _ _ _ us hl => match us, hl with | [_], _ => rfl
  have F_l_values := fun_mk (st := s_l_values) h_l_l_values h_c_l_values h_k_l_values
  have b_l_values := F_l_values.binds (ps := ["_law_base"]) fun _ _ _ _ _ _ us hl => match us, hl with | [_], _ => rfl
  have F_l_row := fun_mk (st := s_l_row) h_l_l_row h_c_l_row h_k_l_row
  have b_l_row := F_l_row.binds (ps := ["_law_bag_here", "_law_n", "_law_base"]) fun _ _ _ _ _ _ us hl => match us, hl with | [_, _, _], _ => rfl
  have F_l_odd_row := fun_mk (st := s_l_odd_row) h_l_l_odd_row h_c_l_odd_row h_k_l_odd_row
  have b_l_odd_row := F_l_odd_row.binds (ps := ["_law_bag_here", "_law_n", "_law_base"]) fun _ _ _ _ _ _ us hl => match us, hl with | [_, _, _], _ => rfl
  have F_l_letters := fun_mk (st := s_l_letters) h_l_l_letters h_c_l_letters h_k_l_letters
  have b_l_letters := F_l_letters.binds (ps := ["_law_bag_here", "_law_size"]) fun _ _ _ _ _ _ us hl => match us, hl with | [_, _], _ => rfl
  have F_l_nearly_name := fun_mk (st := s_l_nearly_name) h_l_l_nearly_name h_c_l_nearly_name h_k_l_nearly_name
  have b_l_nearly_name := F_l_nearly_name.binds (ps := ["_law_bag_here"]) fun _ _ _ _ _ _ us hl => match us, hl with | [_], _ => rfl
  have F_l_deep := fun_mk (st := s_l_deep) h_l_l_deep h_c_l_deep h_k_l_deep
  have b_l_deep := F_l_deep.binds (ps := ["_law_bag_here"]) fun _ _ _ _ _ _ us hl => match us, hl with | [_], _ => rfl
  have F_l_nearly_row := fun_mk (st := s_l_nearly_row) h_l_l_nearly_row h_c_l_nearly_row h_k_l_nearly_row
  have b_l_nearly_row := F_l_nearly_row.binds (ps := ["_law_bag_here", "_law_n", "_law_base"]) fun _ _ _ _ _ _ us hl => match us, hl with | [_, _, _], _ => rfl
  have F_l_value := fun_mk (st := s_l_value) h_l_l_value h_c_l_value h_k_l_value
  have b_l_value := F_l_value.binds (ps := ["_law_bag_here", "_law_low", "_law_high", "_law_n", "_law_base"]) fun _ _ _ _ _ _ us hl => match us, hl with | [_, _, _, _, _], _ => rfl
  have F_l_asks := fun_mk (st := s_l_asks) h_l_l_asks h_c_l_asks h_k_l_asks
  have b_l_asks := F_l_asks.binds (ps := ["_law_thing", "_law_low", "_law_high", "_law_n", "_law_base"]) fun _ _ _ _ _ _ us hl => match us, hl with | [_, _, _, _, _], _ => rfl
  have F_l_dues := fun_mk (st := s_l_dues) h_l_l_dues h_c_l_dues h_k_l_dues
  have b_l_dues := F_l_dues.binds (ps := ["_law_thing", "_law_low", "_law_high", "_law_n", "_law_base"]) fun _ _ _ _ _ _ us hl => match us, hl with | [_, _, _, _, _], _ => rfl
  have F_IO := fun_mk (st := inClass (topS 10) 0) h_IO_l h_IO_c h_IO_k
  have b_IO := F_IO.binds (ps := ["self"]) fun _ _ _ _ _ _ us hl => match us, hl with | [_], _ => rfl
  have K_IO : ExcK K IO_C := { oe := { cls := ⟨_, _, _, _, _, _, _, _, _, _, _, _, _, _, _, h_IO_x, by show PySem.HandSPX.refsVE [.type "ValueError", .type "Exception", .type "BaseException", .type "object"] = true; decide +kernel⟩, sa := h_IO_sa, exC := h_IO_eC, tyC := h_IO_tC, kC := h_IO_kC }, ex := { hg := h_IO_ga, hk := h_IO_gg, hs := h_IO_eC, hd := h_IO_hd, ha := h_IO_hc, hn := h_IO_hn, ht := h_IO_ht, hm := h_IO_hm }, kb := kb_of h_IO_sbool h_IO_sint h_IO_sstr h_IO_slist h_IO_stuple }
  have F_law := fun_mk (st := s_law) h_l_law h_c_law h_k_law
  have T : Txt K mg := {
    is_number := ⟨_, _, F_is_number, b_is_number, PySem.W.mg_of X G h_a_is_number⟩
    is_name := ⟨_, _, F_is_name, b_is_name, PySem.W.mg_of X G h_a_is_name⟩
    is_sign := ⟨_, _, F_is_sign, b_is_sign, PySem.W.mg_of X G h_a_is_sign⟩
    is_value := ⟨_, _, F_is_value, b_is_value, PySem.W.mg_of X G h_a_is_value⟩
    is_row := ⟨_, _, F_is_row, b_is_row, PySem.W.mg_of X G h_a_is_row⟩
    l_bag := ⟨_, _, F_l_bag, b_l_bag, PySem.W.mg_of X G h_a_l_bag⟩
    l_draw := ⟨_, _, F_l_draw, b_l_draw, PySem.W.mg_of X G h_a_l_draw⟩
    l_of := ⟨_, _, F_l_of, b_l_of, PySem.W.mg_of X G h_a_l_of⟩
    l_like := ⟨_, _, F_l_like, b_l_like, PySem.W.mg_of X G h_a_l_like⟩
    l_any := ⟨_, _, F_l_any, b_l_any, PySem.W.mg_of X G h_a_l_any⟩
    l_is_number := ⟨_, _, F_l_is_number, b_l_is_number, PySem.W.mg_of X G h_a_l_is_number⟩
    l_is_sign := ⟨_, _, F_l_is_sign, b_l_is_sign, PySem.W.mg_of X G h_a_l_is_sign⟩
    l_is_value := ⟨_, _, F_l_is_value, b_l_is_value, PySem.W.mg_of X G h_a_l_is_value⟩
    l_is_row := ⟨_, _, F_l_is_row, b_l_is_row, PySem.W.mg_of X G h_a_l_is_row⟩
    l_is_name := ⟨_, _, F_l_is_name, b_l_is_name, PySem.W.mg_of X G h_a_l_is_name⟩
    l_values := ⟨_, _, F_l_values, b_l_values, PySem.W.mg_of X G h_a_l_values⟩
    l_row := ⟨_, _, F_l_row, b_l_row, PySem.W.mg_of X G h_a_l_row⟩
    l_odd_row := ⟨_, _, F_l_odd_row, b_l_odd_row, PySem.W.mg_of X G h_a_l_odd_row⟩
    l_letters := ⟨_, _, F_l_letters, b_l_letters, PySem.W.mg_of X G h_a_l_letters⟩
    l_nearly_name := ⟨_, _, F_l_nearly_name, b_l_nearly_name, PySem.W.mg_of X G h_a_l_nearly_name⟩
    l_deep := ⟨_, _, F_l_deep, b_l_deep, PySem.W.mg_of X G h_a_l_deep⟩
    l_nearly_row := ⟨_, _, F_l_nearly_row, b_l_nearly_row, PySem.W.mg_of X G h_a_l_nearly_row⟩
    l_value := ⟨_, _, F_l_value, b_l_value, PySem.W.mg_of X G h_a_l_value⟩
    l_asks := ⟨_, _, F_l_asks, b_l_asks, PySem.W.mg_of X G h_a_l_asks⟩
    l_dues := ⟨_, _, F_l_dues, b_l_dues, PySem.W.mg_of X G h_a_l_dues⟩
    z_isinstance := PySem.W.mg_none_of X G h_z_isinstance
    z_int := PySem.W.mg_none_of X G h_z_int
    z_bool := PySem.W.mg_none_of X G h_z_bool
    z_all := PySem.W.mg_none_of X G h_z_all
    z_str := PySem.W.mg_none_of X G h_z_str
    z_len := PySem.W.mg_none_of X G h_z_len
    z_tuple := PySem.W.mg_none_of X G h_z_tuple
    z_list := PySem.W.mg_none_of X G h_z_list
    z_zip := PySem.W.mg_none_of X G h_z_zip
    z_range := PySem.W.mg_none_of X G h_z_range
    u_LETTERS := _
    c_LETTERS := PySem.W.mg_of X G h_c_LETTERS
    r_LETTERS := ⟨_, rfl⟩
    u_MOST_LETTERS := _
    c_MOST_LETTERS := PySem.W.mg_of X G h_c_MOST_LETTERS
    r_MOST_LETTERS := ⟨_, rfl⟩
    IO_C := IO_C
    IO_f := IO_f
    IO_d := _
    IO_F := F_IO
    IO_b := b_IO
    IO_g := PySem.W.mg_of X G h_IO_g
    IO_K := K_IO
    IO_i := h_IO_i
    IO_t := h_IO_t
    IO_n := h_IO_n }
  exact ⟨PySem.W.fnOf "law" "law" (defArgs s_law) (defBody s_law) (defScope s_law) .none kV_law dc_law pm_law an_law cd_law ct_law, fun s v => .of_eq rfl, fun base _ _ => ok_law T F_law⟩
end Kx
open PySem PySem.W PyProof.Rows
set_option maxHeartbeats 0 in
theorem PySem.Challenge.cw_neverboxes_k01_values_and_rows_judged_holds : PySem.Challenge.rw_neverboxes_k01_values_and_rows_judged.Holds := by
  w_on; o_law; k_head; (case hw => w_witness2)
  k_fill
  refine L2.walk_of (l := PySem.Challenge.rw_neverboxes_k01_values_and_rows_judged) (n := 63) (k := 8) (x := "_law_script") (CX := fun _ => L2.CX0) (sp := fun w => Kx.sp_law _) rfl (by decide) rfl ⟨rfl, by decide, by decide⟩ (fun w h Y => PySem.W.kIn_of Y) ?F (fun _ _ a ns hl _ hS => ⟨a, ns, rfl, hS, hl, fun _ => rfl⟩) (fun _ _ _ _ _ h => h)
  case F =>
    intro w mg fa h KX G hmg
    refine' Kx.all_mk KX G hmg ?a_is_number ?l_is_number ?c_is_number ?k_is_number ?a_is_name ?l_is_name ?c_is_name ?k_is_name ?a_is_sign ?l_is_sign ?c_is_sign ?k_is_sign ?a_is_value ?l_is_value ?c_is_value ?k_is_value ?a_is_row ?l_is_row ?c_is_row ?k_is_row ?a_l_bag ?l_l_bag ?c_l_bag ?k_l_bag ?a_l_draw ?l_l_draw ?c_l_draw ?k_l_draw ?a_l_of ?l_l_of ?c_l_of ?k_l_of ?a_l_like ?l_l_like ?c_l_like ?k_l_like ?a_l_any ?l_l_any ?c_l_any ?k_l_any ?a_l_is_number ?l_l_is_number ?c_l_is_number ?k_l_is_number ?a_l_is_sign ?l_l_is_sign ?c_l_is_sign ?k_l_is_sign ?a_l_is_value ?l_l_is_value ?c_l_is_value ?k_l_is_value ?a_l_is_row ?l_l_is_row ?c_l_is_row ?k_l_is_row ?a_l_is_name ?l_l_is_name ?c_l_is_name ?k_l_is_name ?a_l_values ?l_l_values ?c_l_values ?k_l_values ?a_l_row ?l_l_row ?c_l_row ?k_l_row ?a_l_odd_row ?l_l_odd_row ?c_l_odd_row ?k_l_odd_row ?a_l_letters ?l_l_letters ?c_l_letters ?k_l_letters ?a_l_nearly_name ?l_l_nearly_name ?c_l_nearly_name ?k_l_nearly_name ?a_l_deep ?l_l_deep ?c_l_deep ?k_l_deep ?a_l_nearly_row ?l_l_nearly_row ?c_l_nearly_row ?k_l_nearly_row ?a_l_value ?l_l_value ?c_l_value ?k_l_value ?a_l_asks ?l_l_asks ?c_l_asks ?k_l_asks ?a_l_dues ?l_l_dues ?c_l_dues ?k_l_dues ?a_law ?l_law ?c_law ?k_law ?z_isinstance ?z_int ?z_bool ?z_all ?z_str ?z_len ?z_tuple ?z_list ?z_zip ?z_range ?c_LETTERS ?c_MOST_LETTERS ?IO_g ?IO_x ?IO_sa ?IO_eC ?IO_tC ?IO_kC ?IO_ga ?IO_gg ?IO_hd ?IO_hc ?IO_hn ?IO_ht ?IO_hm ?IO_i ?IO_t ?IO_l ?IO_c ?IO_k ?IO_n ?IO_sbool ?IO_sint ?IO_sstr ?IO_slist ?IO_stuple
    (case a_is_number => k_is); (case l_is_number => k_is); (case c_is_number => k_is); (case k_is_number => k_is); (case a_is_name => k_is); (case l_is_name => k_is)
    (case c_is_name => k_is); (case k_is_name => k_is); (case a_is_sign => k_is); (case l_is_sign => k_is); (case c_is_sign => k_is); (case k_is_sign => k_is)
    (case a_is_value => k_is); (case l_is_value => k_is); (case c_is_value => k_is); (case k_is_value => k_is); (case a_is_row => k_is); (case l_is_row => k_is)
    (case c_is_row => k_is); (case k_is_row => k_is); (case a_l_bag => k_is); (case l_l_bag => k_is); (case c_l_bag => k_is); (case k_l_bag => k_is)
    (case a_l_draw => k_is); (case l_l_draw => k_is); (case c_l_draw => k_is); (case k_l_draw => k_is); (case a_l_of => k_is); (case l_l_of => k_is)
    (case c_l_of => k_is); (case k_l_of => k_is); (case a_l_like => k_is); (case l_l_like => k_is); (case c_l_like => k_is); (case k_l_like => k_is)
    (case a_l_any => k_is); (case l_l_any => k_is); (case c_l_any => k_is); (case k_l_any => k_is); (case a_l_is_number => k_is); (case l_l_is_number => k_is)
    (case c_l_is_number => k_is); (case k_l_is_number => k_is); (case a_l_is_sign => k_is); (case l_l_is_sign => k_is); (case c_l_is_sign => k_is); (case k_l_is_sign => k_is)
    (case a_l_is_value => k_is); (case l_l_is_value => k_is); (case c_l_is_value => k_is); (case k_l_is_value => k_is); (case a_l_is_row => k_is); (case l_l_is_row => k_is)
    (case c_l_is_row => k_is); (case k_l_is_row => k_is); (case a_l_is_name => k_is); (case l_l_is_name => k_is); (case c_l_is_name => k_is); (case k_l_is_name => k_is)
    (case a_l_values => k_is); (case l_l_values => k_is); (case c_l_values => k_is); (case k_l_values => k_is); (case a_l_row => k_is); (case l_l_row => k_is)
    (case c_l_row => k_is); (case k_l_row => k_is); (case a_l_odd_row => k_is); (case l_l_odd_row => k_is); (case c_l_odd_row => k_is); (case k_l_odd_row => k_is)
    (case a_l_letters => k_is); (case l_l_letters => k_is); (case c_l_letters => k_is); (case k_l_letters => k_is); (case a_l_nearly_name => k_is); (case l_l_nearly_name => k_is)
    (case c_l_nearly_name => k_is); (case k_l_nearly_name => k_is); (case a_l_deep => k_is); (case l_l_deep => k_is); (case c_l_deep => k_is); (case k_l_deep => k_is)
    (case a_l_nearly_row => k_is); (case l_l_nearly_row => k_is); (case c_l_nearly_row => k_is); (case k_l_nearly_row => k_is); (case a_l_value => k_is); (case l_l_value => k_is)
    (case c_l_value => k_is); (case k_l_value => k_is); (case a_l_asks => k_is); (case l_l_asks => k_is); (case c_l_asks => k_is); (case k_l_asks => k_is)
    (case a_l_dues => k_is); (case l_l_dues => k_is); (case c_l_dues => k_is); (case k_l_dues => k_is); (case a_law => k_is); (case l_law => k_is)
    (case c_law => k_is); (case k_law => k_is); (case z_isinstance => k_is); (case z_int => k_is); (case z_bool => k_is); (case z_all => k_is)
    (case z_str => k_is); (case z_len => k_is); (case z_tuple => k_is); (case z_list => k_is); (case z_zip => k_is); (case z_range => k_is)
    (case c_LETTERS => k_is); (case c_MOST_LETTERS => k_is); (case IO_g => k_is); (case IO_x => k_is); (case IO_sa => k_is); (case IO_eC => k_is)
    (case IO_tC => k_is); (case IO_kC => k_is); (case IO_ga => k_is); (case IO_gg => k_is); (case IO_hd => k_is); (case IO_hc => k_is)
    (case IO_hn => k_is); (case IO_ht => k_is); (case IO_hm => k_is); (case IO_i => k_is); (case IO_t => k_is); (case IO_l => k_is)
    (case IO_c => k_is); (case IO_k => k_is); (case IO_n => k_is); (case IO_sbool => k_is); (case IO_sint => k_is); (case IO_sstr => k_is)
    (case IO_slist => k_is); (case IO_stuple => k_is)

