import PyProof.Rows.All
import Wide.All
import OpenK.AllK
import Wide.FinOn
import HandS.ForMost
import HandS.IsInst
import HandS.Defaults
import HandS.Conv
import HandS.Zip
import HandS.Walk
import HandS.MakeKwOnly
import HandS.Codes
import PyProof.ListStr
import PyProof.StrOps2
import HandS.TupAny
import HandS.TupMul
import HandS.Star
import KE.SortKeyHeap
import HandS.ExcValue
import HandS.SortKw
import PySem.Challenge.RW_neverboxes_k02_whole_rows_in_order_and_j
set_option Elab.async false
set_option linter.all false
set_option maxRecDepth 100000
set_option maxHeartbeats 4000000
namespace Kx
open PySem PySem.Spec PyProof.Rows L2
/-! ### the text -/
def topS (i : Nat) : Stmt := PySem.Challenge.pw_neverboxes_k02_whole_rows_in_order_and_j.main.body.getD i (.Pass ⟨0, 0, 0, 0⟩)
abbrev s_is_below : Stmt := topS 1
theorem sc_is_below : FnScope ["one", "other", "value", "above"] ["one", "other"] (defScope s_is_below) := ⟨rfl, rfl, rfl, by decide +kernel, rfl, by decide +kernel, by decide +kernel⟩
abbrev s_rows_fit : Stmt := topS 2
theorem sc_rows_fit : FnScope ["one", "other", "value", "against"] ["one", "other"] (defScope s_rows_fit) := ⟨rfl, rfl, rfl, by decide +kernel, rfl, by decide +kernel, by decide +kernel⟩
abbrev s_joined : Stmt := topS 3
theorem sc_joined : FnScope ["one", "other", "value", "against"] ["one", "other"] (defScope s_joined) := ⟨rfl, rfl, rfl, by decide +kernel, rfl, by decide +kernel, by decide +kernel⟩
abbrev s_common : Stmt := topS 4
theorem sc_common : FnScope ["one", "other", "value", "against"] ["one", "other"] (defScope s_common) := ⟨rfl, rfl, rfl, by decide +kernel, rfl, by decide +kernel, by decide +kernel⟩
abbrev s_row_rank : Stmt := topS 5
theorem sc_row_rank : FnScope ["row", "value"] ["row"] (defScope s_row_rank) := ⟨rfl, rfl, rfl, by decide +kernel, rfl, by decide +kernel, by decide +kernel⟩
abbrev s_in_order : Stmt := topS 6
theorem sc_in_order : FnScope ["rows"] ["rows"] (defScope s_in_order) := ⟨rfl, rfl, rfl, by decide +kernel, rfl, by decide +kernel, by decide +kernel⟩
abbrev s_rows_above : Stmt := topS 7
theorem sc_rows_above : FnScope ["row", "signs", "rows", "value", "choices", "start", "choice"] ["row", "signs"] (defScope s_rows_above) := ⟨rfl, rfl, rfl, by decide +kernel, rfl, by decide +kernel, by decide +kernel⟩
abbrev s_every_row : Stmt := topS 8
theorem sc_every_row : FnScope ["inputs", "signs"] ["inputs", "signs"] (defScope s_every_row) := ⟨rfl, rfl, rfl, by decide +kernel, rfl, by decide +kernel, by decide +kernel⟩
abbrev s_l_bag : Stmt := topS 10
theorem sc_l_bag : FnScope ["_law_script", "_law_seed", "_law_item"] ["_law_script"] (defScope s_l_bag) := ⟨rfl, rfl, rfl, by decide +kernel, rfl, by decide +kernel, by decide +kernel⟩
abbrev s_l_draw : Stmt := topS 11
theorem sc_l_draw : FnScope ["_law_bag_here", "_law_size", "_law_item", "_law_digit"] ["_law_bag_here", "_law_size"] (defScope s_l_draw) := ⟨rfl, rfl, rfl, by decide +kernel, rfl, by decide +kernel, by decide +kernel⟩
abbrev s_l_of : Stmt := topS 12
theorem sc_l_of : FnScope ["_law_bag_here", "_law_things"] ["_law_bag_here", "_law_things"] (defScope s_l_of) := ⟨rfl, rfl, rfl, by decide +kernel, rfl, by decide +kernel, by decide +kernel⟩
abbrev s_l_like : Stmt := topS 13
theorem sc_l_like : FnScope ["_law_found", "_law_due", "_law_a", "_law_b"] ["_law_found", "_law_due"] (defScope s_l_like) := ⟨rfl, rfl, rfl, by decide +kernel, rfl, by decide +kernel, by decide +kernel⟩
abbrev s_l_values : Stmt := topS 14
theorem sc_l_values : FnScope ["_law_base"] ["_law_base"] (defScope s_l_values) := ⟨rfl, rfl, rfl, by decide +kernel, rfl, by decide +kernel, by decide +kernel⟩
abbrev s_l_rows : Stmt := topS 15
theorem sc_l_rows : FnScope ["_law_n", "_law_base", "_law_found", "_law_k", "_law_more", "_law_row_here", "_law_v"] ["_law_n", "_law_base"] (defScope s_l_rows) := ⟨rfl, rfl, rfl, by decide +kernel, rfl, by decide +kernel, by decide +kernel⟩
abbrev s_l_below : Stmt := topS 16
theorem sc_l_below : FnScope ["_law_one", "_law_two", "_law_a", "_law_b"] ["_law_one", "_law_two"] (defScope s_l_below) := ⟨rfl, rfl, rfl, by decide +kernel, rfl, by decide +kernel, by decide +kernel⟩
abbrev s_l_fit : Stmt := topS 17
theorem sc_l_fit : FnScope ["_law_one", "_law_two", "_law_a", "_law_b"] ["_law_one", "_law_two"] (defScope s_l_fit) := ⟨rfl, rfl, rfl, by decide +kernel, rfl, by decide +kernel, by decide +kernel⟩
abbrev s_l_row : Stmt := topS 18
theorem sc_l_row : FnScope ["_law_bag_here", "_law_n", "_law_base", "_law_k"] ["_law_bag_here", "_law_n", "_law_base"] (defScope s_l_row) := ⟨rfl, rfl, rfl, by decide +kernel, rfl, by decide +kernel, by decide +kernel⟩
abbrev s_l_kin : Stmt := topS 19
theorem sc_l_kin : FnScope ["_law_bag_here", "_law_row_here", "_law_base", "_law_v"] ["_law_bag_here", "_law_row_here", "_law_base"] (defScope s_l_kin) := ⟨rfl, rfl, rfl, by decide +kernel, rfl, by decide +kernel, by decide +kernel⟩
abbrev s_l_join : Stmt := topS 20
theorem sc_l_join : FnScope ["_law_one", "_law_two", "_law_a", "_law_b"] ["_law_one", "_law_two"] (defScope s_l_join) := ⟨rfl, rfl, rfl, by decide +kernel, rfl, by decide +kernel, by decide +kernel⟩
abbrev s_l_shared : Stmt := topS 21
theorem sc_l_shared : FnScope ["_law_one", "_law_two", "_law_a", "_law_b"] ["_law_one", "_law_two"] (defScope s_l_shared) := ⟨rfl, rfl, rfl, by decide +kernel, rfl, by decide +kernel, by decide +kernel⟩
abbrev s_l_pair_so : Stmt := topS 22
theorem sc_l_pair_so : FnScope ["_law_one", "_law_two", "_law_all_rows", "_law_fit_here", "_law_due", "_law_top", "_law_low", "_law_row_here", "_law_both"] ["_law_one", "_law_two", "_law_all_rows"] (defScope s_l_pair_so) := ⟨rfl, rfl, rfl, by decide +kernel, rfl, by decide +kernel, by decide +kernel⟩
abbrev s_l_row_of : Stmt := topS 23
theorem sc_l_row_of : FnScope ["_law_rank", "_law_k"] ["_law_rank"] (defScope s_l_row_of) := ⟨rfl, rfl, rfl, by decide +kernel, rfl, by decide +kernel, by decide +kernel⟩
abbrev s_l_order_so : Stmt := topS 24
theorem sc_l_order_so : FnScope ["_law_bag_here", "_law_n", "_law_base", "_law_rows_here", "_law_k", "_law_passed", "_law_ranks", "_law_due", "_law_found", "_law_rank", "_law_row_here", "_law_v"] ["_law_bag_here", "_law_n", "_law_base"] (defScope s_l_order_so) := ⟨rfl, rfl, rfl, by decide +kernel, rfl, by decide +kernel, by decide +kernel⟩
abbrev s_l_every_so : Stmt := topS 25
theorem sc_l_every_so : FnScope ["_law_bag_here", "_law_n", "_law_base", "_law_due", "_law_found"] ["_law_bag_here"] (defScope s_l_every_so) := ⟨rfl, rfl, rfl, by decide +kernel, rfl, by decide +kernel, by decide +kernel⟩
abbrev s_law : Stmt := topS 26
theorem sc_law : FnScope ["_law_script", "_law_bag_here", "_law_lap", "_law_base", "_law_n", "_law_all_rows", "_law_one", "_law_two", "_law_longer"] ["_law_script"] (defScope s_law) := ⟨rfl, rfl, rfl, by decide +kernel, rfl, by decide +kernel, by decide +kernel⟩
/-- a def as it stands behind the top -/
structure DefAt (K : PySem.W.Frag) (mg : Str → Option Value) (x : Str) (st : Stmt) (ps : List Str) where
  f : Addr
  d : FuncData
  F : Fun K x x st f d
  b : Binds K d ps []
  g : mg x = some (.ref f)
theorem DefAt.kp {K : PySem.W.Frag} {mg : Str → Option Value} {x : Str} {st : Stmt} {ps : List Str} (T : DefAt K mg x st ps) : PySem.W.keepIn K (.ref T.f) = true := T.F.kp
/-- a def with keyword-only defaults -/
structure DefD (K : PySem.W.Frag) (mg : Str → Option Value) (x : Str) (st : Stmt) (kws : List (Str × V)) where
  f : Addr
  d : FuncData
  F : FunD K x x (defArgs st) (defBody st) (defScope st) [] kws f d
  g : mg x = some (.ref f)
/-! ### heaps: all but the bag stays -/
def cut (b : Addr) (H : Hp) : Hp := fun a => if a = b then none else H a
theorem cut_at {b : Addr} {H : Hp} : cut b H b = none := if_pos rfl
theorem cut_ne {b a : Addr} {H : Hp} (h : a ≠ b) : cut b H a = H a := if_neg h
theorem cut_some {b a : Addr} {H : Hp} {o : HO} (h : cut b H a = some o) : H a = some o ∧ a ≠ b := by
  by_cases e : a = b
  · subst e
    rw [cut_at] at h
    cases h
  · rw [cut_ne e] at h
    exact ⟨h, e⟩
theorem cut_of {b a : Addr} {H : Hp} {o : HO} (h : H a = some o) (e : a ≠ b) : cut b H a = some o := by rw [cut_ne e]; exact h
theorem cut_out {b : Addr} {H : Hp} : Same (cut b H) H := fun a o h => (cut_some h).1
/-- the law's own store of numbers: where it stands, its items -/
structure BagId where
  b : Addr
  p : Addr
  ns : List Int
structure Bag (B : BagId) (H : Hp) : Prop where
  ne : B.p ≠ B.b
  items : H B.p = some (.lst (B.ns.map V.int))
  ex : ∃ (i g s c : Int), H B.b = some (.lst [.ref B.p, .int i, .int g, .int s, .int c]) ∧ 0 ≤ i ∧ 0 ≤ g ∧ 0 ≤ s ∧ s < 2147483629
structure Ext (B : BagId) (H H' : Hp) : Prop where
  same : Same (cut B.b H) (cut B.b H')
  bag : Bag B H'
theorem Ext.trans {B : BagId} {H H1 H2 : Hp} (a : Ext B H H1) (c : Ext B H1 H2) : Ext B H H2 := ⟨a.same.trans c.same, c.bag⟩
theorem Ext.refl {B : BagId} {H : Hp} (h : Bag B H) : Ext B H H := ⟨Same.refl _, h⟩
theorem same_upd {H : Hp} {p : Addr} {o : HO} (h : H p = none) : Same H (upd H p o) := fun b x e => by
  rw [upd_ne (ne_of_none e h)]
  exact e
theorem Bag.same {B : BagId} {H H' : Hp} (h : Bag B H) (e : Same H H') : Bag B H' := by
  obtain ⟨i, g, s, c, h1, r⟩ := h.ex
  exact ⟨h.ne, e _ _ h.items, i, g, s, c, e _ _ h1, r⟩
theorem Bag.at {B : BagId} {H : Hp} (h : Bag B H) : ∃ o, H B.b = some o := by
  obtain ⟨i, g, s, c, h1, _⟩ := h.ex
  exact ⟨_, h1⟩
theorem Bag.fresh {B : BagId} {H : Hp} {p : Addr} (h : Bag B H) (n : H p = none) : p ≠ B.b := fun e => by
  obtain ⟨o, ho⟩ := h.at
  rw [e, ho] at n
  cases n
theorem same_cut {b : Addr} {H H' : Hp} (e : Same H H') : Same (cut b H) (cut b H') := fun a o h => by
  obtain ⟨h1, h2⟩ := cut_some h
  exact cut_of (e _ _ h1) h2
theorem Ext.of_same {B : BagId} {H H' : Hp} (h : Bag B H) (e : Same H H') : Ext B H H' := ⟨same_cut e, h.same e⟩
theorem Ext.new {B : BagId} {p : Addr} {H : Hp} {o : HO} (h : Bag B H) (n : H p = none) : Ext B H (upd H p o) := .of_same h (same_upd n)
theorem Ext.free {B : BagId} {H H' : Hp} {p : Addr} (e : Ext B H H') (n : H' p = none) : H p = none := by
  cases q : H p with
  | none => rfl
  | some o =>
    have := e.same _ _ (cut_of q (e.bag.fresh n))
    rw [(cut_some this).1] at n
    cases n
/-- a new object beside the bag -/
theorem cut_new {B : BagId} {p : Addr} {H : Hp} {o : HO} (h : Bag B H) (n : H p = none) : cut B.b (upd H p o) p = some o := cut_of upd_same (h.fresh n)
/-- the bag's own list changed -/
theorem Bag.set {B : BagId} {H : Hp} (h : Bag B H) {i g s c : Int} (h1 : 0 ≤ i) (h2 : 0 ≤ g) (h3 : 0 ≤ s) (h4 : s < 2147483629) : Ext B H (upd H B.b (.lst [.ref B.p, .int i, .int g, .int s, .int c])) :=
  ⟨fun a o e => by
    obtain ⟨e1, e2⟩ := cut_some e
    exact cut_of (by rw [upd_ne e2]; exact e1) e2, h.ne, by rw [upd_ne h.ne]; exact h.items, i, g, s, c, upd_same, h1, h2, h3, h4⟩
theorem int_of_cut {ns : List Int} {lo hi : Option Int} {i : Nat} {x : V} (h : (cutV (ns.map V.int) lo hi)[i]? = some x) : ∃ v : Int, x = .int v := by
  have m := List.mem_of_getElem? h
  unfold cutV at m
  obtain ⟨v, _, e⟩ := List.mem_map.mp (List.mem_of_mem_drop (List.mem_of_mem_take m))
  exact ⟨v, e.symm⟩
def ints_of (xs : List V) : List Int := xs.filterMap fun v => match v with | .int i => some i | _ => none
theorem ints_of_map (ns : List Int) : ints_of (ns.map V.int) = ns := by
  unfold ints_of
  rw [List.filterMap_map]
  exact List.filterMap_some
theorem ints_of_cut {ns : List Int} {lo hi : Option Int} : (ints_of (cutV (ns.map V.int) lo hi)).map V.int = cutV (ns.map V.int) lo hi := by
  unfold cutV
  rw [← List.map_drop, ← List.map_take, ints_of_map]
theorem mod_nn {x m : Int} (h : 0 < m) : 0 ≤ Int.fmod x m ∧ Int.fmod x m < m := by
  rw [Int.fmod_eq_emod_of_nonneg _ (Int.le_of_lt h)]
  exact ⟨Int.emod_nonneg _ (by omega), Int.emod_lt_of_pos _ h⟩
/-! ### the words -/
theorem scal_ii {a b : Int} : scal (.int a) (.int b) = true := rfl
theorem scal_bb {a b : Bool} : scal (.bl a) (.bl b) = true := rfl
theorem scal_ss {a b : Str} : scal (.str a) (.str b) = true := rfl
theorem scal_nx : scal .non .non = true := rfl
theorem scal_xn {a : Int} : scal .non (.int a) = true ∧ scal (.int a) .non = true := ⟨rfl, rfl⟩
def IfK (t u : TS) (D : Ends) (σ : L2.St) (b : Bool) (H : Hp) : Prop := if b = true then t D σ H else u D σ H
theorem tIfS_eq {c : TT} {t u : TS} {D : Ends} {σ : L2.St} {H : Hp} : tIfS c t u D σ H = c σ H (IfK t u D σ) := rfl
theorem ifk {t u : TS} {D : Ends} {σ : L2.St} {H : Hp} {p : Prop} [Decidable p] (h1 : p → t D σ H) (h2 : ¬ p → u D σ H) : IfK t u D σ (decide p) H := by
  unfold IfK
  by_cases h : p
  · rw [decide_eq_true h, if_pos rfl]
    exact h1 h
  · rw [decide_eq_false h, if_neg Bool.false_ne_true]
    exact h2 h
theorem ifkb {t u : TS} {D : Ends} {σ : L2.St} {H : Hp} {b : Bool} (h1 : b = true → t D σ H) (h2 : b = false → u D σ H) : IfK t u D σ b H := by
  cases b with
  | true => exact h1 rfl
  | false => exact h2 rfl
theorem ifk_t {t u : TS} {D : Ends} {σ : L2.St} {H : Hp} : IfK t u D σ true H = t D σ H := if_pos rfl
theorem ifk_f {t u : TS} {D : Ends} {σ : L2.St} {H : Hp} : IfK t u D σ false H = u D σ H := if_neg Bool.false_ne_true
def IeK (ta tb : TE) (σ : L2.St) (Q : VK) (b : Bool) (H : Hp) : Prop := if b = true then ta σ H Q else tb σ H Q
theorem tIf_eq {c : TT} {ta tb : TE} {σ : L2.St} {H : Hp} {Q : VK} : tIf c ta tb σ H Q = c σ H (IeK ta tb σ Q) := rfl
theorem iek {ta tb : TE} {σ : L2.St} {H : Hp} {Q : VK} {p : Prop} [Decidable p] (h1 : p → ta σ H Q) (h2 : ¬ p → tb σ H Q) : IeK ta tb σ Q (decide p) H := by
  unfold IeK
  by_cases h : p
  · rw [decide_eq_true h, if_pos rfl]
    exact h1 h
  · rw [decide_eq_false h, if_neg Bool.false_ne_true]
    exact h2 h
theorem iek_t {ta tb : TE} {σ : L2.St} {H : Hp} {Q : VK} : IeK ta tb σ Q true H = ta σ H Q := if_pos rfl
theorem iek_f {ta tb : TE} {σ : L2.St} {H : Hp} {Q : VK} : IeK ta tb σ Q false H = tb σ H Q := if_neg Bool.false_ne_true
def LpJ (g : TG) (tb : TS) (D : Ends) (σ : L2.St) (J : It) (H1 : Hp) : Prop := ∃ W : Nat → Nat → L2.St → Hp → Prop, (∃ m, W 0 m σ H1) ∧ ∀ i m σ H, W i m σ H →
  (J.stop i H ∧ D.nx σ H) ∨ (J.go i H ∧ ∃ N : L2.St → Hp → Prop, (∀ σ' H', N σ' H' → ∃ m', m' < m ∧ W (i + 1) m' σ' H') ∧ ∀ x H', J.yld i H x H' → g x σ H' fun σ2 H2 => tb { D with nx := N, ct := N, bk := D.nx } σ2 H2)
theorem tFor_eq {wi : TI} {g : TG} {tb : TS} {D : Ends} {σ : L2.St} {H : Hp} : tFor wi g tb D σ H = wi σ H (LpJ g tb D σ) := rfl
def LcJ (g : TG) (tt : TT) (te : TE) (vs : List Nat) (σ : L2.St) (Q : VK) (J : It) (H1 : Hp) : Prop := ∀ D, H1 D = none → ∃ W : Nat → Nat → Hp → Prop, (∃ m, W 0 m (upd H1 D (.lst []))) ∧ ∀ i m H, W i m H →
  (J.stop i H ∧ Q (.ref D) H) ∨ (J.go i H ∧ ∃ Nx : Hp → Prop, (∀ H', Nx H' → ∃ m', m' < m ∧ W (i + 1) m' H') ∧ ∀ x H', J.yld i H x H' → g x (wipe σ vs) H' fun σ2 H2 => wipe σ2 vs = wipe σ vs ∧ tt σ2 H2 fun b H3 =>
    if b = true then te σ2 H3 fun y H4 => ∃ acc, H4 D = some (.lst acc) ∧ acc.length < sizeLine ∧ Nx (upd H4 D (.lst (acc ++ [y]))) else Nx H3)
theorem tLc_eq {wi : TI} {g : TG} {tt : TT} {te : TE} {vs : List Nat} {σ : L2.St} {H : Hp} {Q : VK} : tLc wi g tt te vs σ H Q = wi σ H (LcJ g tt te vs σ Q) := rfl
theorem lp_it {J : It} {n : Nat} {G : Hp → Prop} {Y : Nat → Hp → V → Hp → Prop} (w : Walk J n G Y) {g : TG} {tb : TS} {D : Ends} {σ : L2.St} {H : Hp} (Pv : Nat → L2.St → Hp → Prop) (h0 : Pv 0 σ H) (hG : ∀ i σ H, i ≤ n → Pv i σ H → G H)
    (hs : ∀ i x σ H H', i < n → Pv i σ H → Y i H x H' → g x σ H' fun σ2 H2 => tb { D with nx := Pv (i + 1), ct := Pv (i + 1), bk := D.nx } σ2 H2) (hd : ∀ σ H, Pv n σ H → D.nx σ H) : LpJ g tb D σ J H := for_it w Pv h0 hG hs hd
/-- a comprehension whose items are told without the heap; nothing but new things -/
theorem lcS {J : It} {n : Nat} {G : Hp → Prop} {Y : Nat → Hp → V → Hp → Prop} (w : Walk J n G Y) {g : TG} {te : TE} {vs : List Nat} {σ : L2.St} {H1 : Hp} {Q : VK} (Φ : Nat → V → Prop) (hG : ∀ H, Same H1 H → G H) (hn : n ≤ 100000)
    (hs : ∀ i x H H' (R : V → Hp → Prop), i < n → Same H1 H → Y i H x H' → (∀ y H4, Same H H4 → Φ i y → R y H4) → g x (wipe σ vs) H' fun σ2 H2 => wipe σ2 vs = wipe σ vs ∧ te σ2 H2 R)
    (hd : ∀ D H ys, H1 D = none → Same H1 H → H D = some (.lst ys) → ys.length = n → (∀ i y, ys[i]? = some y → Φ i y) → Q (.ref D) H) : LcJ g tYes te vs σ Q J H1 := by
  intro D hD
  refine lc_it w (fun i H => Same H1 H ∧ ∃ ys, H D = some (.lst ys) ∧ ys.length = i ∧ ∀ i y, ys[i]? = some y → Φ i y) ⟨same_upd hD, [], upd_same, rfl, fun i y e => by simp at e⟩ (fun i H _ h => hG H h.1) (fun i x H H' hi h y => ?_) (fun H h => ?_)
  · obtain ⟨h1, ys, h2, h3, h4⟩ := h
    refine hs i x H H' _ hi h1 y fun z H4 s4 p => ?_
    refine ⟨ys, s4 _ _ h2, by rw [h3]; exact Nat.lt_of_lt_of_le hi (Nat.le_trans hn (by decide)), ?_, ys ++ [z], upd_same, by rw [List.length_append, h3]; rfl, fun j v e => ?_⟩
    · intro a o e
      rw [upd_ne (ne_of_none e hD)]
      exact s4 _ _ (h1 _ _ e)
    · by_cases hj : j < ys.length
      · rw [List.getElem?_append_left hj] at e
        exact h4 j v e
      · rw [List.getElem?_append_right (by omega)] at e
        by_cases hz : j - ys.length = 0
        · rw [hz] at e
          have e1 : z = v := Option.some.inj e
          have e2 : j = i := by omega
          rw [← e1, e2]
          exact p
        · rw [List.getElem?_eq_none (by simp; omega)] at e
          cases e
  · obtain ⟨h1, ys, h2, h3, h4⟩ := h
    exact hd D H ys hD h1 h2 h3 h4
/-- the same beside the bag -/
theorem lcB {B : BagId} {J : It} {n : Nat} {G : Hp → Prop} {Y : Nat → Hp → V → Hp → Prop} (w : Walk J n G Y) {g : TG} {te : TE} {vs : List Nat} {σ : L2.St} {H1 : Hp} {Q : VK} (Φ : Nat → V → Prop) (hb : Bag B H1) (hG : ∀ H, Ext B H1 H → G H) (hn : n ≤ 100000)
    (hs : ∀ i x H H' (R : V → Hp → Prop), i < n → Ext B H1 H → Y i H x H' → (∀ y H4, Ext B H H4 → Φ i y → R y H4) → g x (wipe σ vs) H' fun σ2 H2 => wipe σ2 vs = wipe σ vs ∧ te σ2 H2 R)
    (hd : ∀ D H ys, H1 D = none → Ext B H1 H → cut B.b H D = some (.lst ys) → ys.length = n → (∀ i y, ys[i]? = some y → Φ i y) → Q (.ref D) H) : LcJ g tYes te vs σ Q J H1 := by
  intro D hD
  have hDb : D ≠ B.b := hb.fresh hD
  refine lc_it w (fun i H => Ext B H1 H ∧ ∃ ys, cut B.b H D = some (.lst ys) ∧ ys.length = i ∧ ∀ i y, ys[i]? = some y → Φ i y) ⟨.new hb hD, [], cut_new hb hD, rfl, fun i y e => by simp at e⟩ (fun i H _ h => hG H h.1) (fun i x H H' hi h y => ?_) (fun H h => ?_)
  · obtain ⟨h1, ys, h2, h3, h4⟩ := h
    refine hs i x H H' _ hi h1 y fun z H4 s4 p => ?_
    refine ⟨ys, (cut_some (s4.same _ _ h2)).1, by rw [h3]; exact Nat.lt_of_lt_of_le hi (Nat.le_trans hn (by decide)), ⟨?_, ?_⟩, ys ++ [z], cut_of upd_same hDb, by rw [List.length_append, h3]; rfl, fun j v e => ?_⟩
    · intro a o e
      have e1 := h1.same _ _ e
      have e2 := s4.same _ _ e1
      obtain ⟨e3, e4⟩ := cut_some e2
      have na : a ≠ D := ne_of_none (cut_some e).1 hD
      exact cut_of (by rw [upd_ne na]; exact e3) e4
    · obtain ⟨i, g, s, c, k1, r⟩ := s4.bag.ex
      exact ⟨s4.bag.ne, by rw [upd_ne (ne_of_none hb.items hD)]; exact s4.bag.items, i, g, s, c, by rw [upd_ne (Ne.symm hDb)]; exact k1, r⟩
    · by_cases hj : j < ys.length
      · rw [List.getElem?_append_left hj] at e
        exact h4 j v e
      · rw [List.getElem?_append_right (by omega)] at e
        by_cases hz : j - ys.length = 0
        · rw [hz] at e
          have e1 : z = v := Option.some.inj e
          have e2 : j = i := by omega
          rw [← e1, e2]
          exact p
        · rw [List.getElem?_eq_none (by simp; omega)] at e
          cases e
  · obtain ⟨h1, ys, h2, h3, h4⟩ := h
    exact hd D H ys hD h1 h2 h3 h4
/-! ### the kinds of values -/
def vty (x : V) (H : Hp) : Option String := match x with
  | .non => some "NoneType"
  | .bl _ => some "bool"
  | .int _ => some "int"
  | .str _ => some "str"
  | .ref a => (match H a with
    | some (.lst _) => some "list"
    | some (.tup _) => some "tuple"
    | some (.dK _) => some "dict"
    | _ => none)
  | _ => none
theorem vty_tyx {K : PySem.W.Frag} {x : V} {H : Hp} {n : String} (h : vty x H = some n) : TyX K H x (.type n) := by
  unfold vty at h
  split at h
  · cases h; exact .base .non
  · cases h; exact .base (.bl _)
  · cases h; exact .base (.int _)
  · cases h; exact .base (.str _)
  · rename_i a
    split at h
    · rename_i xs e; cases h; exact .base (.lst e)
    · rename_i xs e; cases h; exact .base (.tup e)
    · rename_i xs e; cases h; exact .base (.dK e)
    · cases h
  · cases h
theorem vty_same {x : V} {H H' : Hp} {n : String} (h : vty x H = some n) (e : Same H H') : vty x H' = some n := by
  cases x with
  | ref a =>
    unfold vty at h ⊢
    cases q : H a with
    | none => simp [q] at h
    | some o =>
      simp only [q] at h
      simp only [e _ _ q]
      exact h
  | _ => exact h
theorem vty_lst {a : Addr} {H : Hp} {xs : List V} (h : H a = some (.lst xs)) : vty (.ref a) H = some "list" := by
  unfold vty; simp only [h]
theorem vty_tup {a : Addr} {H : Hp} {xs : List V} (h : H a = some (.tup xs)) : vty (.ref a) H = some "tuple" := by
  unfold vty; simp only [h]
theorem vty_dK {a : Addr} {H : Hp} {xs : List (Key × V)} (h : H a = some (.dK xs)) : vty (.ref a) H = some "dict" := by
  unfold vty; simp only [h]
theorem vty_non {H : Hp} : vty .non H = some "NoneType" := rfl
theorem vty_bl {H : Hp} {b : Bool} : vty (.bl b) H = some "bool" := rfl
theorem vty_int {H : Hp} {b : Int} : vty (.int b) H = some "int" := rfl
theorem vty_str {H : Hp} {b : Str} : vty (.str b) H = some "str" := rfl
def isaB (n c : String) : Bool := (kitB n c).getD false
theorem isa_list_list : isaB "list" "list" = true := by decide +kernel
theorem isa_list_tuple : isaB "list" "tuple" = false := by decide +kernel
theorem isa_list_bool : isaB "list" "bool" = false := by decide +kernel
theorem isa_list_int : isaB "list" "int" = false := by decide +kernel
theorem isa_list_str : isaB "list" "str" = false := by decide +kernel
theorem isa_tuple_list : isaB "tuple" "list" = false := by decide +kernel
theorem isa_tuple_tuple : isaB "tuple" "tuple" = true := by decide +kernel
theorem isa_tuple_bool : isaB "tuple" "bool" = false := by decide +kernel
theorem isa_tuple_int : isaB "tuple" "int" = false := by decide +kernel
theorem isa_tuple_str : isaB "tuple" "str" = false := by decide +kernel
theorem isa_dict_list : isaB "dict" "list" = false := by decide +kernel
theorem isa_dict_tuple : isaB "dict" "tuple" = false := by decide +kernel
theorem isa_dict_bool : isaB "dict" "bool" = false := by decide +kernel
theorem isa_dict_int : isaB "dict" "int" = false := by decide +kernel
theorem isa_dict_str : isaB "dict" "str" = false := by decide +kernel
theorem isa_bool_list : isaB "bool" "list" = false := by decide +kernel
theorem isa_bool_tuple : isaB "bool" "tuple" = false := by decide +kernel
theorem isa_bool_bool : isaB "bool" "bool" = true := by decide +kernel
theorem isa_bool_int : isaB "bool" "int" = true := by decide +kernel
theorem isa_bool_str : isaB "bool" "str" = false := by decide +kernel
theorem isa_int_list : isaB "int" "list" = false := by decide +kernel
theorem isa_int_tuple : isaB "int" "tuple" = false := by decide +kernel
theorem isa_int_bool : isaB "int" "bool" = false := by decide +kernel
theorem isa_int_int : isaB "int" "int" = true := by decide +kernel
theorem isa_int_str : isaB "int" "str" = false := by decide +kernel
theorem isa_str_list : isaB "str" "list" = false := by decide +kernel
theorem isa_str_tuple : isaB "str" "tuple" = false := by decide +kernel
theorem isa_str_bool : isaB "str" "bool" = false := by decide +kernel
theorem isa_str_int : isaB "str" "int" = false := by decide +kernel
theorem isa_str_str : isaB "str" "str" = true := by decide +kernel
theorem isa_non_list : isaB "NoneType" "list" = false := by decide +kernel
theorem isa_non_tuple : isaB "NoneType" "tuple" = false := by decide +kernel
theorem isa_non_bool : isaB "NoneType" "bool" = false := by decide +kernel
theorem isa_non_int : isaB "NoneType" "int" = false := by decide +kernel
theorem isa_non_str : isaB "NoneType" "str" = false := by decide +kernel
theorem kit_isa {K : PySem.W.Frag} {n c : String} (hm : PySem.W.kitMeta c = true) (hn : (PySem.fastBuiltinMro n).isSome = true) : PySem.W.kitOne K (.type n) (.type c) = some (isaB n c) := by
  show kitB n c = some ((kitB n c).getD false)
  unfold kitB
  split
  · rfl
  · cases e : PySem.fastBuiltinMro n with
    | none => rw [e] at hn; cases hn
    | some l => rfl
def Kn (n : String) : Bool := n ∈ ["NoneType", "bool", "int", "str", "list", "tuple", "dict"]
def Kc (c : String) : Bool := c ∈ ["bool", "int", "str", "list", "tuple"]
theorem kn_mro {n : String} (h : Kn n = true) : (PySem.fastBuiltinMro n).isSome = true := by
  have q : ∀ n ∈ ["NoneType", "bool", "int", "str", "list", "tuple", "dict"], (PySem.fastBuiltinMro n).isSome = true := by decide +kernel
  exact q n (of_decide_eq_true h)
theorem kc_meta {n : String} (h : Kc n = true) : PySem.W.kitMeta n = true := by
  have q : ∀ n ∈ ["bool", "int", "str", "list", "tuple"], PySem.W.kitMeta n = true := by decide +kernel
  exact q n (of_decide_eq_true h)
theorem vty_kn {x : V} {H : Hp} {n : String} (h : vty x H = some n) : Kn n = true := by
  unfold vty at h
  split at h
  · cases h; decide
  · cases h; decide
  · cases h; decide
  · cases h; decide
  · split at h
    · cases h; decide
    · cases h; decide
    · cases h; decide
    · cases h
  · cases h
/-- isinstance(x, T) -/
def rIsiF : List V → Hp → VK → Prop := fun xs H Q => ∃ (x : V) (c : String), xs = [x, .ty c] ∧ Kc c = true ∧ ∃ n, vty x H = some n ∧ Q (.bl (isaB n c)) H
theorem call_isiF {X : Cx} : CallR X (.builtin "isinstance") rIsiF := fun pins s σ H xs us Q I r h => by
  obtain ⟨x, c, rfl, hc, n, hn, q⟩ := h
  exact call_isi pins s σ H _ us Q I r ⟨x, .ty c, .type n, .type c, isaB n c, rfl, .ty c, vty_tyx hn, kit_isa (kc_meta hc) (kn_mro (vty_kn hn)), q⟩
/-- isinstance(x, (T1, T2)) -/
def rIsiFT : List V → Hp → VK → Prop := fun xs H Q => ∃ (x : V) (tp : Addr), xs = [x, .ref tp] ∧ ∃ c d, H tp = some (.tup [.ty c, .ty d]) ∧ Kc c = true ∧ Kc d = true ∧ ∃ n, vty x H = some n ∧ Q (.bl (isaB n c || isaB n d)) H
theorem call_isiFT {X : Cx} : CallR X (.builtin "isinstance") rIsiFT := fun pins s σ H xs us Q I r h => by
  obtain ⟨x, tp, rfl, c, d, hT, hc, hd, n, hn, q⟩ := h
  refine call_isiT pins s σ H _ us Q I r ⟨x, tp, [.ty c, .ty d], .type n, [.type c, .type d], _, rfl, hT, .cons (.ty c) (.cons (.ty d) .nil), vty_tyx hn, ?_, q⟩
  have k1 := kit_isa (K := X.K) (kc_meta hc) (kn_mro (vty_kn hn))
  have k2 := kit_isa (K := X.K) (kc_meta hd) (kn_mro (vty_kn hn))
  refine kitAny_cons k1 (fun e => ?_) (fun e => by rw [e]; rfl)
  rw [e, Bool.false_or]
  exact kitAny_cons k2 (fun e => by rw [e]; rfl) (fun e => e)
theorem pe_tyb {X : Cx} {x : Str} {pos : Pos} (n : String) (hg : Gl X x) (hm : X.mg x = none) (hv : bootBuiltins x = some (.type n)) (hn : x ≠ "__name__" := by decide) (hd : (x == ("__debug__" : Str)) = false := by decide) : PE X (.Name x pos) (tC (.ty n)) := pe_bltn hg hm hv rfl hn hd
/-- the rules that bear K, by name -/
def rLenS (K : PySem.W.Frag) : List V → Hp → VK → Prop := fun xs H Q => ∃ p ys, xs = [.ref p] ∧ (SqL K H p ys ∨ SqT K H p ys) ∧ Q (.int (ys.length : Nat)) H
def rLenV (K : PySem.W.Frag) : List V → Hp → VK → Prop := fun xs H Q => ∃ x n, xs = [x] ∧ LenV K x H n ∧ Q (.int (n : Nat)) H
def rListOf (K : PySem.W.Frag) : List V → Hp → VK → Prop := fun xs H Q => ∃ p ys, xs = [.ref p] ∧ (SqL K H p ys ∨ SqT K H p ys) ∧ ∀ l, H l = none → Q (.ref l) (upd H l (.lst ys))
def rTupOf (K : PySem.W.Frag) : List V → Hp → VK → Prop := fun xs H Q => ∃ p ys, xs = [.ref p] ∧ ((SqL K H p ys ∧ ∀ l, H l = none → Q (.ref l) (upd H l (.tup ys))) ∨ (SqT K H p ys ∧ Q (.ref p) H))
theorem kc_bool : Kc "bool" = true := by decide
theorem kc_int : Kc "int" = true := by decide
theorem kc_str : Kc "str" = true := by decide
theorem kc_list : Kc "list" = true := by decide
theorem kc_tuple : Kc "tuple" = true := by decide
theorem sz_0 : (0 ≤ sizeLine) = True := eq_true (by decide)
theorem sz_1 : (1 ≤ sizeLine) = True := eq_true (by decide)
theorem sz_2 : (2 ≤ sizeLine) = True := eq_true (by decide)
theorem sz_3 : (3 ≤ sizeLine) = True := eq_true (by decide)
theorem sz_4 : (4 ≤ sizeLine) = True := eq_true (by decide)
theorem sz_5 : (5 ≤ sizeLine) = True := eq_true (by decide)
theorem sz_6 : (6 ≤ sizeLine) = True := eq_true (by decide)
theorem sz_7 : (7 ≤ sizeLine) = True := eq_true (by decide)
theorem sz_8 : (8 ≤ sizeLine) = True := eq_true (by decide)
theorem sz_9 : (9 ≤ sizeLine) = True := eq_true (by decide)
theorem sz_10 : (10 ≤ sizeLine) = True := eq_true (by decide)
theorem sz_11 : (11 ≤ sizeLine) = True := eq_true (by decide)
theorem sz_12 : (12 ≤ sizeLine) = True := eq_true (by decide)
theorem sz_13 : (13 ≤ sizeLine) = True := eq_true (by decide)
theorem walk_zipT {K : PySem.W.Frag} {a b : Addr} {xs ys : List V} {n : Nat} (hn : n = min xs.length ys.length) : Walk (RZ.ItzT K a b) n (fun H => SqT K H a xs ∧ SqT K H b ys) (YPair (fun i => xs[i]?) (fun i => ys[i]?)) := by
  subst hn
  refine ⟨fun i _ hi q => ?_, fun _ q => ⟨xs, ys, q.1, q.2, by omega⟩, fun i H v H' _ q y => ?_⟩
  · have h1 : i < xs.length := by omega
    have h2 : i < ys.length := by omega
    exact ⟨xs, ys, xs[i], ys[i], q.1, q.2, by simp [h1], by simp [h2]⟩
  · obtain ⟨T, x, z, h1, h2, h3, h4, h5⟩ := y
    exact ⟨T, x, z, h1, h2, h3, h4 xs q.1, h5 ys q.2⟩
structure Txt (K : PySem.W.Frag) (mg : Str → Option Value) where
  is_below : DefAt K mg "is_below" s_is_below ["one", "other"]
  rows_fit : DefAt K mg "rows_fit" s_rows_fit ["one", "other"]
  joined : DefAt K mg "joined" s_joined ["one", "other"]
  common : DefAt K mg "common" s_common ["one", "other"]
  row_rank : DefAt K mg "row_rank" s_row_rank ["row"]
  in_order : DefAt K mg "in_order" s_in_order ["rows"]
  rows_above : DefAt K mg "rows_above" s_rows_above ["row", "signs"]
  every_row : DefD K mg "every_row" s_every_row [("signs", .int 2)]
  l_bag : DefAt K mg "_law_bag" s_l_bag ["_law_script"]
  l_draw : DefAt K mg "_law_draw" s_l_draw ["_law_bag_here", "_law_size"]
  l_of : DefAt K mg "_law_of" s_l_of ["_law_bag_here", "_law_things"]
  l_like : DefAt K mg "_law_like" s_l_like ["_law_found", "_law_due"]
  l_values : DefAt K mg "_law_values" s_l_values ["_law_base"]
  l_rows : DefAt K mg "_law_rows" s_l_rows ["_law_n", "_law_base"]
  l_below : DefAt K mg "_law_below" s_l_below ["_law_one", "_law_two"]
  l_fit : DefAt K mg "_law_fit" s_l_fit ["_law_one", "_law_two"]
  l_row : DefAt K mg "_law_row" s_l_row ["_law_bag_here", "_law_n", "_law_base"]
  l_kin : DefAt K mg "_law_kin" s_l_kin ["_law_bag_here", "_law_row_here", "_law_base"]
  l_join : DefAt K mg "_law_join" s_l_join ["_law_one", "_law_two"]
  l_shared : DefAt K mg "_law_shared" s_l_shared ["_law_one", "_law_two"]
  l_pair_so : DefAt K mg "_law_pair_so" s_l_pair_so ["_law_one", "_law_two", "_law_all_rows"]
  l_row_of : DefAt K mg "_law_row_of" s_l_row_of ["_law_rank"]
  l_order_so : DefAt K mg "_law_order_so" s_l_order_so ["_law_bag_here", "_law_n", "_law_base"]
  l_every_so : DefAt K mg "_law_every_so" s_l_every_so ["_law_bag_here"]
  z_all : mg "all" = none
  z_len : mg "len" = none
  z_zip : mg "zip" = none
  z_tuple : mg "tuple" = none
  z_sorted : mg "sorted" = none
  z_list : mg "list" = none
  z_range : mg "range" = none
  z_int : mg "int" = none
  z_isinstance : mg "isinstance" = none
  z_bool : mg "bool" = none
  z_str : mg "str" = none
local macro_rules | `(tactic| walk_at "wp") => `(tactic| simp only [tSeq, tAsg, tC, tVar, tOp, tUn, rI, rI0, rU, tCB, tCons, tNil, tRet, tRetN, tDrop, tLst, tTup, tIf_eq, tIfS_eq, ifk_t, ifk_f, iek_t, iek_f, tTest, tB, tAnd, tOr, tNot, tAndV, tOrV, tNotV, tNext, tSl, rSlL, tPart, tNoPart, gName, gTup, gCons, gNil, gSub, rSetL, tCall, iList, iTup, iRng1, iRng2, rIxL, rIxT, rEq, rNe, scal_ii, scal_bb, scal_ss, scal_nx, scal_xn, RZ.iZipA, rIsiF, rIsiFT, vty_non, vty_bl, vty_int, vty_str, isa_list_list, isa_list_tuple, isa_list_bool, isa_list_int, isa_list_str, isa_tuple_list, isa_tuple_tuple, isa_tuple_bool, isa_tuple_int, isa_tuple_str, isa_dict_list, isa_dict_tuple, isa_dict_bool, isa_dict_int, isa_dict_str, isa_bool_list, isa_bool_tuple, isa_bool_bool, isa_bool_int, isa_bool_str, isa_int_list, isa_int_tuple, isa_int_bool, isa_int_int, isa_int_str, isa_str_list, isa_str_tuple, isa_str_bool, isa_str_int, isa_str_str, isa_non_list, isa_non_tuple, isa_non_bool, isa_non_int, isa_non_str, kc_bool, kc_int, kc_str, kc_list, kc_tuple, upd_same, HO.tup.injEq, HO.lst.injEq, V.ty.injEq, Bool.or_true, Bool.true_or, Bool.or_false, Bool.false_or, sz_0, sz_1, sz_2, sz_3, sz_4, sz_5, sz_6, sz_7, sz_8, sz_9, sz_10, sz_11, sz_12, sz_13, decide_true, decide_false, C8.tCut, tPar, tCallN,  tDisp, tPairs, rSlS, rLenS, rLenV, rListOf, rTupOf, tM0, tM1, iStr, wipe, tYes, tFor_eq, tLc_eq, L2.start, cxOf, Cx.nox, Cx.wish, List.map_cons, List.map_nil, List.length_cons, List.length_nil, List.replicate, List.cons_append, List.nil_append, List.getElem?_cons_zero, List.getElem?_cons_succ, List.set_cons_zero, List.set_cons_succ, Option.some.injEq, and_assoc, exists_and_left, exists_and_right, exists_eq_left', exists_eq_left, exists_eq, exists_eq', true_and, and_true, Nat.reduceSub, Nat.reduceAdd, V.int.injEq, V.ref.injEq, V.bl.injEq, V.str.injEq, List.cons.injEq, decide_eq_true_eq, reduceCtorEq, false_or, or_false, and_false, false_and, exists_false, exists_const, if_true, if_false, Bool.true_eq_false, Bool.false_eq_true, ite_true, ite_false, Bool.not_true, Bool.not_false, decide_eq_false_iff_not, ne_eq])

end Kx

set_option Elab.async false
set_option linter.all false
set_option maxRecDepth 100000
set_option maxHeartbeats 4000000
namespace Kx
open PySem PySem.Spec PyProof.Rows L2
local macro_rules | `(tactic| walk_at "wp") => `(tactic| simp only [tSeq, tAsg, tC, tVar, tOp, tUn, rI, rI0, rU, tCB, tCons, tNil, tRet, tRetN, tDrop, tLst, tTup, tIf_eq, tIfS_eq, ifk_t, ifk_f, iek_t, iek_f, tTest, tB, tAnd, tOr, tNot, tAndV, tOrV, tNotV, tNext, tSl, rSlL, tPart, tNoPart, gName, gTup, gCons, gNil, gSub, rSetL, tCall, iList, iTup, iRng1, iRng2, rIxL, rIxT, rEq, rNe, scal_ii, scal_bb, scal_ss, scal_nx, scal_xn, RZ.iZipA, rIsiF, rIsiFT, vty_non, vty_bl, vty_int, vty_str, isa_list_list, isa_list_tuple, isa_list_bool, isa_list_int, isa_list_str, isa_tuple_list, isa_tuple_tuple, isa_tuple_bool, isa_tuple_int, isa_tuple_str, isa_dict_list, isa_dict_tuple, isa_dict_bool, isa_dict_int, isa_dict_str, isa_bool_list, isa_bool_tuple, isa_bool_bool, isa_bool_int, isa_bool_str, isa_int_list, isa_int_tuple, isa_int_bool, isa_int_int, isa_int_str, isa_str_list, isa_str_tuple, isa_str_bool, isa_str_int, isa_str_str, isa_non_list, isa_non_tuple, isa_non_bool, isa_non_int, isa_non_str, kc_bool, kc_int, kc_str, kc_list, kc_tuple, upd_same, HO.tup.injEq, HO.lst.injEq, V.ty.injEq, Bool.or_true, Bool.true_or, Bool.or_false, Bool.false_or, sz_0, sz_1, sz_2, sz_3, sz_4, sz_5, sz_6, sz_7, sz_8, sz_9, sz_10, sz_11, sz_12, sz_13, decide_true, decide_false, C8.tCut, tPar, tCallN,  tDisp, tPairs, rSlS, rLenS, rLenV, rListOf, rTupOf, tM0, tM1, iStr, wipe, tYes, tFor_eq, tLc_eq, L2.start, cxOf, Cx.nox, Cx.wish, List.map_cons, List.map_nil, List.length_cons, List.length_nil, List.replicate, List.cons_append, List.nil_append, List.getElem?_cons_zero, List.getElem?_cons_succ, List.set_cons_zero, List.set_cons_succ, Option.some.injEq, and_assoc, exists_and_left, exists_and_right, exists_eq_left', exists_eq_left, exists_eq, exists_eq', true_and, and_true, Nat.reduceSub, Nat.reduceAdd, V.int.injEq, V.ref.injEq, V.bl.injEq, V.str.injEq, List.cons.injEq, decide_eq_true_eq, reduceCtorEq, false_or, or_false, and_false, false_and, exists_false, exists_const, if_true, if_false, Bool.true_eq_false, Bool.false_eq_true, ite_true, ite_false, Bool.not_true, Bool.not_false, decide_eq_false_iff_not, ne_eq])

section
variable {P : Program} {w : World} {K : PySem.W.Frag} {mg : Str → Option Value} {base : Heap}
def sp_bag (K : PySem.W.Frag) : Sp := fun vs H Q _ => ∃ (a : Addr) (ns : List Int), vs = [.ref a] ∧ SqL K H a (ns.map V.int) ∧ ns.length ≤ 63 ∧ ∀ (B : BagId) H', Same H H' → Bag B H' → Q (.ref B.b) H'
def sp_draw : Sp := fun vs H Q _ => ∃ (B : BagId) (n : Int), vs = [.ref B.b, .int n] ∧ Bag B H ∧ 0 < n ∧ n < 1073741824 ∧ ∀ k H', Ext B H H' → 0 ≤ k → k < n → Q (.int k) H'
def sp_of (K : PySem.W.Frag) : Sp := fun vs H Q _ => ∃ (B : BagId) (t : Addr) (xs : List V), vs = [.ref B.b, .ref t] ∧ Bag B H ∧ SqL K (cut B.b H) t xs ∧ 0 < xs.length ∧ xs.length < 1000000 ∧ ∀ v H', v ∈ xs → Ext B H H' → Q v H'
theorem call_intI {X : Cx} : CallR X (.type "int") (fun xs H Q => ∃ i, xs = [.int i] ∧ Q (.int i) H) := fun pins s σ H xs us Q I r h => call_int1 pins s σ H xs us Q I r (.inl h)
theorem ok_bag (T : Txt K mg) : FnOk P w K mg base CX0 1 T.l_bag.f T.l_bag.d ["_law_script"] (sp_bag K) := by
  refine T.l_bag.F.ok sc_l_bag (fun vs H Q E h => ?_) (fun cdv A outer s H vs Q E hr h => ?_)
  · obtain ⟨a, ns, rfl, _⟩ := h
    rfl
  obtain ⟨a, ns, rfl, hS, hlen, q⟩ := h
  refine ⟨_, (pss_cons (ps_set (i := 1) sc_l_bag.nd rfl (.inl rfl) pe_int)
      (pss_cons (ps_for PassesOwn.never rfl (pi_list (pe_slice sl_list (pv 0) po_none (po_some pe_int))) (pg_name (i := 2) sc_l_bag.nd rfl (.inl rfl))
      (pss_one (ps_set (i := 1) sc_l_bag.nd rfl (.inl rfl) (pe_op op_modN (pe_callTy call_intI (by rfl) T.z_int (by decide +kernel) (pa_cons (pe_op op_add (pe_op op_add (pe_op op_mul (pv 1) pe_int) (pe_op op_modN (pe_callTy call_intI (by rfl) T.z_int (by decide +kernel) (pa_cons (pv 2) pa_nil)) pe_int)) pe_int) pa_nil)) pe_int))))
      (pss_one (ps_ret (pe_lst (pa_cons (pe_callTy call_list_of (by rfl) T.z_list (by decide +kernel) (pa_cons (pe_slice sl_list (pv 0) po_none (po_some pe_int)) pa_nil)) (pa_cons pe_int (pa_cons pe_int (pa_cons (pv 1) (pa_cons pe_int pa_nil)))))))))), ?_⟩
  walk_at "wp"
  refine ⟨_, hS, fun p hp => ⟨⟨_, .inl (.inl upd_same)⟩, ?_⟩⟩
  refine lp_it (walk_list (xs := cutV (ns.map V.int) none (some 63))) (fun i σ H' => ∃ (y : Int) (z : Option V), σ = [some (.ref a), some (.int y), z] ∧ 0 ≤ y ∧ y < 2147483629 ∧ H' = upd H p (.lst (cutV (ns.map V.int) none (some 63)))) ⟨12047, none, rfl, by decide, by decide, rfl⟩ (fun i σ H' _ h => ?_) (fun i x σ H' H2 hi h hy => ?_) (fun σ H' h => ?_)
  · obtain ⟨y, z, rfl, _, _, rfl⟩ := h
    exact .inl (.inl upd_same)
  · obtain ⟨y, z, rfl, h1, h2, rfl⟩ := h
    obtain ⟨rfl, hx⟩ := hy
    have hxi : ∃ v : Int, x = .int v := int_of_cut hx
    obtain ⟨v, rfl⟩ := hxi
    walk_at "wp"
    have m := mod_nn (x := y * 69621 + v.fmod 2147483587 + 101) (m := 2147483629) (by decide)
    exact ⟨.inl ⟨by omega, by omega⟩, by decide, by decide, m.1, m.2⟩
  · obtain ⟨y, z, rfl, h1, h2, rfl⟩ := h
    walk_at "wp"
    refine ⟨_, (same_upd hp).seq hS, fun p1 hp1 => ⟨_, .inl (.inl (.inl upd_same)), fun l hl b hb => ?_⟩⟩
    refine q ⟨b, l, ints_of (cutV (ns.map V.int) none (some 63))⟩ _ ((same_upd hp).trans ((same_upd hp1).trans ((same_upd hl).trans (same_upd hb)))) ⟨ne_of_none upd_same hb, ?_, 0, 0, y, 0, upd_same, by decide, by decide, h1, h2⟩
    rw [upd_ne (ne_of_none upd_same hb), upd_same, ints_of_cut]
theorem ok_draw (T : Txt K mg) : FnOk P w K mg base CX0 1 T.l_draw.f T.l_draw.d ["_law_bag_here", "_law_size"] sp_draw := by
  refine T.l_draw.F.ok sc_l_draw (fun vs H Q E h => ?_) (fun cdv A outer s H vs Q E hr h => ?_)
  · obtain ⟨B, n, rfl, _⟩ := h
    rfl
  obtain ⟨B, n, rfl, hB, hn0, hn1, q⟩ := h
  obtain ⟨i, g, sd, c, hb, hi, hg, hs0, hs1⟩ := hB.ex
  refine ⟨_, (pss_cons (ps_asg (pe_op op_add (pe_ix ix_list (pv 0) pe_int (fun _ _ => rfl)) pe_int) (pg_sub (pv 0) pe_int set_list))
      (C8.pss_cut (ps_if (PW.pt (pw_and (pt_cmpR op_eq (pe_ix ix_list (pv 0) pe_int (fun _ _ => rfl)) pe_int (nomark _)) (pw_and1 (pt_cmpR op_lt (pe_ix ix_list (pv 0) pe_int (fun _ _ => rfl)) (pe_callB call_len_seq (by rfl) T.z_len PySem.boot_len (pa_cons (pe_ix ix_list (pv 0) pe_int (fun _ _ => rfl)) pa_nil)) (nomark _)))))
      (pss_cons (ps_set (i := 2) sc_l_draw.nd rfl (.inl rfl) (pe_ix ix_list (pe_ix ix_list (pv 0) pe_int (fun _ _ => rfl)) (pe_ix ix_list (pv 0) pe_int (fun _ _ => rfl)) (fun _ _ => rfl)))
      (pss_cons (ps_asg (pe_op op_add (pe_ix ix_list (pv 0) pe_int (fun _ _ => rfl)) pe_int) (pg_sub (pv 0) pe_int set_list))
      (pss_one (ps_if (pt_cmpR op_ge (pv 2) (pe_op op_pow pe_int pe_int) (nomark _))
      (pss_one (ps_asg (pv 2) (pg_sub (pv 0) pe_int set_list)))
      (pss_one (ps_asg (pe_op op_modN (pe_callTy call_intI (by rfl) T.z_int (by decide +kernel) (pa_cons (pe_op op_add (pe_op op_add (pe_op op_mul (pe_ix ix_list (pv 0) pe_int (fun _ _ => rfl)) pe_int) (pe_op op_mul (pe_op op_modN (pe_callTy call_intI (by rfl) T.z_int (by decide +kernel) (pa_cons (pv 2) pa_nil)) pe_int) pe_int)) pe_int) pa_nil)) pe_int) (pg_sub (pv 0) pe_int set_list)))))))
      pss_nil)
      (pss_cons (ps_if (pt_cmpR op_gt (pe_ix ix_list (pv 0) pe_int (fun _ _ => rfl)) pe_int (nomark _))
      (pss_cons (ps_set (i := 3) sc_l_draw.nd rfl (.inl rfl) (pe_op op_modN (pe_callTy call_intI (by rfl) T.z_int (by decide +kernel) (pa_cons (pe_ix ix_list (pv 0) pe_int (fun _ _ => rfl)) pa_nil)) (pv 1)))
      (pss_cons (ps_asg (pe_op op_fdivN (pe_ix ix_list (pv 0) pe_int (fun _ _ => rfl)) (pv 1)) (pg_sub (pv 0) pe_int set_list))
      (pss_one (ps_ret (pv 3)))))
      pss_nil)
      (pss_cons (ps_asg (pe_op op_modN (pe_callTy call_intI (by rfl) T.z_int (by decide +kernel) (pa_cons (pe_op op_add (pe_op op_add (pe_op op_pow (pe_ix ix_list (pv 0) pe_int (fun _ _ => rfl)) pe_int) (pe_op op_mul (pe_ix ix_list (pv 0) pe_int (fun _ _ => rfl)) pe_int)) pe_int) pa_nil)) pe_int) (pg_sub (pv 0) pe_int set_list))
      (pss_one (ps_ret (pe_op op_modN (pe_callTy call_intI (by rfl) T.z_int (by decide +kernel) (pa_cons (pe_op op_add (pe_op op_fdivN (pe_ix ix_list (pv 0) pe_int (fun _ _ => rfl)) pe_int) (pe_op op_mul (pe_op op_modN (pe_callTy call_intI (by rfl) T.z_int (by decide +kernel) (pa_cons (pe_ix ix_list (pv 0) pe_int (fun _ _ => rfl)) pa_nil)) pe_int) pe_int)) pa_nil)) (pv 1)))))))), ?_⟩
  walk_at "wp"
  refine ⟨_, .inl (.inl hb), _, rfl, _, rfl, _, hb, 4, rfl, ?_⟩
  have e1 : Ext B H (upd H B.b (.lst (List.set [.ref B.p, .int i, .int g, .int sd, .int c] 4 (.int (c + 1))))) := hB.set hi hg hs0 hs1
  have b1 : upd H B.b (.lst (List.set [.ref B.p, .int i, .int g, .int sd, .int c] 4 (.int (c + 1)))) B.b = some (.lst [.ref B.p, .int i, .int g, .int sd, .int (c + 1)]) := upd_same
  generalize upd H B.b (.lst (List.set [.ref B.p, .int i, .int g, .int sd, .int c] 4 (.int (c + 1)))) = H1 at e1 b1 ⊢
  -- behind the item that is taken, or not
  obtain ⟨Mid, hMid⟩ : ∃ M : L2.St → Hp → Prop, ∀ σ H2, M σ H2 ↔ ∃ (i g sd : Int) (z1 z2 : Option V), σ = [some (.ref B.b), some (.int n), z1, z2] ∧ Ext B H H2 ∧ 0 ≤ i ∧ 0 ≤ g ∧ 0 ≤ sd ∧ sd < 2147483629 ∧ H2 B.b = some (.lst [.ref B.p, .int i, .int g, .int sd, .int (c + 1)]) := ⟨_, fun _ _ => Iff.rfl⟩
  refine ⟨Mid, ?_, fun σ H2 h => ?_⟩
  · refine ⟨_, .inl (.inl b1), _, rfl, rfl, ?_⟩
    refine ite2 (fun c1 => ?_) (fun c1 => ?_)
    · refine ⟨_, .inl (.inl b1), _, rfl, _, .inl (.inl b1), _, rfl, _, rfl, _, .inl (.inl (.inl e1.bag.items)), _, rfl, ?_⟩
      refine ifk (fun c2 => ?_) (fun c2 => ?_)
      · walk_at "wp"
        rw [List.length_map] at c2
        have hat : atI (B.ns.map V.int) i = some (.int (B.ns[i.toNat]'(by omega))) := at_of (j := i.toNat) (by omega) (by rw [List.getElem?_map, List.getElem?_eq_getElem (by omega)]; rfl)
        generalize B.ns[i.toNat]'(by omega) = v at hat
        refine ⟨_, .inl (.inl b1), _, rfl, _, .inl (.inl b1), _, rfl, _, rfl, _, _, rfl, .inl (.inl e1.bag.items), _, hat, _, .inl (.inl b1), _, rfl, _, rfl, _, b1, 1, rfl, ⟨by decide, by decide, by decide⟩, _, rfl, ?_⟩
        have e2 : Ext B H1 (upd H1 B.b (.lst (List.set [.ref B.p, .int i, .int g, .int sd, .int (c + 1)] 1 (.int (i + 1))))) := e1.bag.set (by omega) hg hs0 hs1
        have b2 : upd H1 B.b (.lst (List.set [.ref B.p, .int i, .int g, .int sd, .int (c + 1)] 1 (.int (i + 1)))) B.b = some (.lst [.ref B.p, .int (i + 1), .int g, .int sd, .int (c + 1)]) := upd_same
        generalize upd H1 B.b (.lst (List.set [.ref B.p, .int i, .int g, .int sd, .int (c + 1)] 1 (.int (i + 1)))) = H2 at e2 b2 ⊢
        refine ifk (fun c3 => ?_) (fun c3 => ?_)
        · walk_at "wp"
          have c4 : (0 : Int) ≤ v := Int.le_trans (by decide) c3
          exact ⟨_, b2, 2, rfl, (hMid _ _).mpr ⟨i + 1, v, sd, _, _, rfl, e1.trans (e2.trans (e2.bag.set (by omega) c4 hs0 hs1)), by omega, c4, hs0, hs1, upd_same⟩⟩
        · walk_at "wp"
          have m := mod_nn (x := sd * 40692 + v.fmod 2147483549 * 30011 + 71) (m := 2147483629) (by decide)
          have m1 := mod_nn (x := v) (m := 2147483549) (by decide)
          exact ⟨_, .inl (.inl b2), _, rfl, _, rfl, .inr ⟨by decide, by decide⟩, by decide, .inr ⟨by decide, by decide⟩, by decide, _, b2, 3, rfl,
            (hMid _ _).mpr ⟨i + 1, g, _, _, _, rfl, e1.trans (e2.trans (e2.bag.set (by omega) hg m.1 m.2)), by omega, hg, m.1, m.2, upd_same⟩⟩
      · try walk_at "wp"
        exact (hMid _ _).mpr ⟨i, g, sd, none, none, rfl, e1, hi, hg, hs0, hs1, b1⟩
    · try walk_at "wp"
      exact (hMid _ _).mpr ⟨i, g, sd, none, none, rfl, e1, hi, hg, hs0, hs1, b1⟩
  · obtain ⟨i, g, sd, z1, z2, rfl, e2, hi, hg, hs0, hs1, b2⟩ := (hMid _ _).mp h
    walk_at "wp"
    refine ⟨_, .inl (.inl b2), _, rfl, _, rfl, ?_⟩
    refine ifk (fun c2 => ?_) (fun c2 => ?_)
    · walk_at "wp"
      have m := mod_nn (x := g) (m := n) hn0
      have hq : 0 ≤ g.fdiv n := Int.fdiv_nonneg hg (Int.le_of_lt hn0)
      exact ⟨_, .inl (.inl b2), _, rfl, _, rfl, by omega, _, .inl (.inl b2), _, rfl, _, rfl, ⟨by omega, by omega⟩, _, b2, 2, rfl, q _ _ (e2.trans (e2.bag.set hi hq hs0 hs1)) m.1 m.2⟩
    · walk_at "wp"
      have m := mod_nn (x := sd ^ (3 : Int).toNat + (c + 1) * 1299721 + 50021) (m := 2147483629) (by decide)
      refine ⟨_, .inl (.inl b2), _, rfl, _, rfl, ⟨by decide, by decide, by omega⟩, _, .inl (.inl b2), _, rfl, _, rfl, .inr ⟨by decide, by decide⟩, by decide, _, b2, 3, rfl, ?_⟩
      generalize (sd ^ (3 : Int).toNat + (c + 1) * 1299721 + 50021).fmod 2147483629 = y at m ⊢
      have e3 := e2.trans (e2.bag.set (i := i) (g := g) (s := y) (c := c + 1) hi hg m.1 m.2)
      have m2 := mod_nn (x := y.fdiv 89 + y.fmod 7907 * 61) (m := n) hn0
      exact ⟨_, .inl (.inl upd_same), _, rfl, _, rfl, ⟨by decide, by decide⟩, _, .inl (.inl upd_same), _, rfl, _, rfl, by decide, .inr ⟨by decide, by decide⟩, by omega, q _ _ e3 m2.1 m2.2⟩
theorem ok_of (T : Txt K mg) : FnOk P w K mg base CX0 2 T.l_of.f T.l_of.d ["_law_bag_here", "_law_things"] (sp_of K) := by
  have G_l_draw : FnOk P w K mg base CX0 1 T.l_draw.f T.l_draw.d ["_law_bag_here", "_law_size"] sp_draw := ok_draw T
  refine T.l_of.F.ok sc_l_of (fun vs H Q E h => ?_) (fun cdv A outer s H vs Q E hr h => ?_)
  · obtain ⟨B, t, xs, rfl, _⟩ := h
    rfl
  obtain ⟨B, t, xs, rfl, hB, hx, h0, h1, q⟩ := h
  refine ⟨_, (pss_one (ps_ret (pe_ix ix_list (pv 1) (pe_call G_l_draw (hr.mono (by omega)) (by rfl) T.l_draw.g T.l_draw.kp T.l_draw.b .nil pass0 (pa_cons (pv 0) (pa_cons (pe_callB call_len_seq (by rfl) T.z_len PySem.boot_len (pa_cons (pv 1) pa_nil)) pa_nil))) (fun _ _ => rfl)))), ?_⟩
  walk_at "wp"
  refine ⟨xs, .inl (cut_out.seq hx), B, _, rfl, hB, by omega, by omega, fun k H' e h1 h2 => ?_⟩
  have hk : k.toNat < xs.length := by omega
  refine ⟨_, k, rfl, cut_out.seq (e.same.seq hx), _, at_of (j := k.toNat) (by omega) (List.getElem?_eq_getElem hk), ?_⟩
  exact q _ _ (List.getElem_mem hk) e
end
end Kx

set_option Elab.async false
set_option linter.all false
set_option maxRecDepth 100000
set_option maxHeartbeats 4000000
namespace Kx
open PySem PySem.Spec PyProof.Rows L2
local macro_rules | `(tactic| walk_at "wp") => `(tactic| simp only [tSeq, tAsg, tC, tVar, tOp, tUn, rI, rI0, rU, tCB, tCons, tNil, tRet, tRetN, tDrop, tLst, tTup, tIf_eq, tIfS_eq, ifk_t, ifk_f, iek_t, iek_f, tTest, tB, tAnd, tOr, tNot, tAndV, tOrV, tNotV, tNext, tSl, rSlL, tPart, tNoPart, gName, gTup, gCons, gNil, gSub, rSetL, tCall, iList, iTup, iRng1, iRng2, rIxL, rIxT, rEq, rNe, scal_ii, scal_bb, scal_ss, scal_nx, scal_xn, RZ.iZipA, rIsiF, rIsiFT, vty_non, vty_bl, vty_int, vty_str, isa_list_list, isa_list_tuple, isa_list_bool, isa_list_int, isa_list_str, isa_tuple_list, isa_tuple_tuple, isa_tuple_bool, isa_tuple_int, isa_tuple_str, isa_dict_list, isa_dict_tuple, isa_dict_bool, isa_dict_int, isa_dict_str, isa_bool_list, isa_bool_tuple, isa_bool_bool, isa_bool_int, isa_bool_str, isa_int_list, isa_int_tuple, isa_int_bool, isa_int_int, isa_int_str, isa_str_list, isa_str_tuple, isa_str_bool, isa_str_int, isa_str_str, isa_non_list, isa_non_tuple, isa_non_bool, isa_non_int, isa_non_str, kc_bool, kc_int, kc_str, kc_list, kc_tuple, upd_same, HO.tup.injEq, HO.lst.injEq, V.ty.injEq, Bool.or_true, Bool.true_or, Bool.or_false, Bool.false_or, sz_0, sz_1, sz_2, sz_3, sz_4, sz_5, sz_6, sz_7, sz_8, sz_9, sz_10, sz_11, sz_12, sz_13, decide_true, decide_false, C8.tCut, tPar, tCallN,  tDisp, tPairs, rSlS, rLenS, rLenV, rListOf, rTupOf, tM0, tM1, iStr, wipe, tYes, tFor_eq, tLc_eq, L2.start, cxOf, Cx.nox, Cx.wish, List.map_cons, List.map_nil, List.length_cons, List.length_nil, List.replicate, List.cons_append, List.nil_append, List.getElem?_cons_zero, List.getElem?_cons_succ, List.set_cons_zero, List.set_cons_succ, Option.some.injEq, and_assoc, exists_and_left, exists_and_right, exists_eq_left', exists_eq_left, exists_eq, exists_eq', true_and, and_true, Nat.reduceSub, Nat.reduceAdd, V.int.injEq, V.ref.injEq, V.bl.injEq, V.str.injEq, List.cons.injEq, decide_eq_true_eq, reduceCtorEq, false_or, or_false, and_false, false_and, exists_false, exists_const, if_true, if_false, Bool.true_eq_false, Bool.false_eq_true, ite_true, ite_false, Bool.not_true, Bool.not_false, decide_eq_false_iff_not, ne_eq])

/-! ### data -/
def Is (H : Hp) : Nat → PyData → V → Prop
  | _, .none, v => v = .non
  | _, .bool b, v => v = .bl b
  | _, .int i, v => v = .int i
  | _, .str x, v => v = .str x
  | n + 1, .list ds, v => ds.length ≤ 5000 ∧ ∃ a xs, v = .ref a ∧ H a = some (.lst xs) ∧ Paired (Is H n) ds xs
  | n + 1, .tuple ds, v => ds.length ≤ 5000 ∧ ∃ a xs, v = .ref a ∧ H a = some (.tup xs) ∧ Paired (Is H n) ds xs
  | _, _, _ => False
theorem paired_mono {α β : Type} {R S : α → β → Prop} (h : ∀ a b, R a b → S a b) : ∀ {as : List α} {bs : List β}, Paired R as bs → Paired S as bs
  | _, _, .nil => .nil
  | _, _, .cons a b => .cons (h _ _ a) (paired_mono h b)
theorem Is.same {H H' : Hp} (e : Same H H') : ∀ {n : Nat} {d : PyData} {v : V}, Is H n d v → Is H' n d v
  | _, .none, _, h => by unfold Is at h ⊢; exact h
  | _, .bool b, _, h => by unfold Is at h ⊢; exact h
  | _, .int i, _, h => by unfold Is at h ⊢; exact h
  | _, .str x, _, h => by unfold Is at h ⊢; exact h
  | n + 1, .list ds, v, h => by
    unfold Is at h ⊢
    obtain ⟨h0, a, xs, h1, h2, h3⟩ := h
    exact ⟨h0, a, xs, h1, e _ _ h2, paired_mono (fun _ _ => Is.same e) h3⟩
  | n + 1, .tuple ds, v, h => by
    unfold Is at h ⊢
    obtain ⟨h0, a, xs, h1, h2, h3⟩ := h
    exact ⟨h0, a, xs, h1, e _ _ h2, paired_mono (fun _ _ => Is.same e) h3⟩
  | 0, .list _, _, h => by unfold Is at h; exact h.elim
  | 0, .tuple _, _, h => by unfold Is at h; exact h.elim
  | _, .dict _, _, h => by unfold Is at h; exact h.elim
theorem Is.up {H : Hp} : ∀ {n : Nat} {d : PyData} {v : V}, Is H n d v → Is H (n + 1) d v
  | _, .none, _, h => by unfold Is at h ⊢; exact h
  | _, .bool b, _, h => by unfold Is at h ⊢; exact h
  | _, .int i, _, h => by unfold Is at h ⊢; exact h
  | _, .str x, _, h => by unfold Is at h ⊢; exact h
  | n + 1, .list ds, v, h => by
    unfold Is at h ⊢
    obtain ⟨h0, a, xs, h1, h2, h3⟩ := h
    exact ⟨h0, a, xs, h1, h2, paired_mono (fun _ _ => Is.up) h3⟩
  | n + 1, .tuple ds, v, h => by
    unfold Is at h ⊢
    obtain ⟨h0, a, xs, h1, h2, h3⟩ := h
    exact ⟨h0, a, xs, h1, h2, paired_mono (fun _ _ => Is.up) h3⟩
  | 0, .list _, _, h => by unfold Is at h; exact h.elim
  | 0, .tuple _, _, h => by unfold Is at h; exact h.elim
  | _, .dict _, _, h => by unfold Is at h; exact h.elim
theorem paired_len {α β : Type} {R : α → β → Prop} : ∀ {as : List α} {bs : List β}, Paired R as bs → as.length = bs.length
  | _, _, .nil => rfl
  | _, _, .cons _ b => congrArg Nat.succ (paired_len b)
theorem paired_at {α β : Type} {R : α → β → Prop} : ∀ {as : List α} {bs : List β}, Paired R as bs → ∀ {i : Nat} {b : β}, bs[i]? = some b → ∃ a, as[i]? = some a ∧ R a b
  | _, _, .nil, _, _, h => by simp at h
  | _, _, .cons a b, 0, _, h => by cases h; exact ⟨_, rfl, a⟩
  | _, _, .cons a b, i + 1, _, h => paired_at b h
section
variable {P : Program} {w : World} {K : PySem.W.Frag} {mg : Str → Option Value} {base : Heap}
def sp_like (n : Nat) : Sp := fun vs H Q _ => ∃ (x y : V) (d : PyData), vs = [x, y] ∧ Is H n d x ∧ Is H n d y ∧ ∀ H', Same H H' → Q (.bl true) H'
def lk : Nat → Sp
  | 0 => fun _ _ _ _ => False
  | n + 1 => sp_like n
theorem none_left {f : Addr} {fd : FuncData} {ps : List Str} {sp : Sp} (no : ∀ vs H Q E, ¬ sp vs H Q E) : FnOk P w K mg base CX0 0 f fd ps sp :=
  ⟨fun vs H Q E h => absurd h (no vs H Q E), fun A outer s H args us vs Q E _ _ _ _ h => absurd h (no vs H Q E)⟩
theorem all_trues : ∀ {zs : List V}, (∀ (i : Nat) (y : V), zs[i]? = some y → y = V.bl true) → zs = (List.replicate zs.length true).map V.bl
  | [], _ => rfl
  | z :: r, h => by
    have e : z = V.bl true := h 0 z rfl
    have ih := all_trues (zs := r) fun i y q => h (i + 1) y q
    rw [e, List.length_cons, List.replicate_succ, List.map_cons, ← ih]
theorem like_comp {m : Nat} {xs ys : List V} {ds : List PyData} {J : It} {G : Hp → Prop} {H1 : Hp} {u v : V} {Q : VK} (w : Walk J ds.length G (YPair (fun i => xs[i]?) (fun i => ys[i]?))) (hG : ∀ H2, Same H1 H2 → G H2)
    (px : Paired (Is H1 m) ds xs) (py : Paired (Is H1 m) ds ys) (q : ∀ H', Same H1 H' → Q (.bl true) H') (hl : ds.length ≤ 5000) :
    LcJ (gTup K 2 (gCons (gName 2) (gCons (gName 3) gNil))) tYes (tCall (lk (m + 1)) [] E0 (tCons (tVar 2) (tCons (tVar 3) tNil))) [2, 3] [some u, some v, none, none] (fun x H1 => rAll K [x] H1 Q) J H1 := by
  refine lcS w (fun i y => y = .bl true) hG (by omega) (fun i x H H' R hi s1 hy k => ?_) (fun D H zs hD s1 hz hlen hall => ?_)
  · obtain ⟨Tt, x1, y1, rfl, nT, rfl, e1, e2⟩ := hy
    walk_at "wp"
    refine ⟨_, .inl (.inl upd_same), ?_⟩
    walk_at "wp"
    obtain ⟨d, d1, d2⟩ := paired_at px e1
    obtain ⟨d', d3, d4⟩ := paired_at py e2
    rw [d1] at d3
    cases d3
    have s2 : Same H1 (upd H Tt (.tup [x1, y1])) := s1.trans (same_upd nT)
    exact ⟨x1, y1, d, rfl, d2.same s2, d4.same s2, fun H' s3 => k _ _ ((same_upd nT).trans s3) rfl⟩
  · refine ⟨D, List.replicate zs.length true, rfl, .inl (.inl (by rw [← all_trues hall]; exact hz)), ?_⟩
    have e : (List.replicate zs.length true).all id = true := by simp
    rw [e]
    exact q _ s1
theorem ok_like (T : Txt K mg) : ∀ n : Nat, FnOk P w K mg base CX0 n T.l_like.f T.l_like.d ["_law_found", "_law_due"] (lk n)
  | 0 => none_left fun _ _ _ _ h => h
  | n + 1 => by
    have G_l_like := ok_like T n
    refine T.l_like.F.ok sc_l_like (fun vs H Q E h => ?_) (fun cdv A outer s H vs Q E hr h => ?_)
    · obtain ⟨x, y, d, rfl, _⟩ := h
      rfl
    obtain ⟨x, y, d, rfl, hx, hy, q⟩ := h
    refine ⟨_, (pss_cons (ps_if (pt_val (pe_callB call_isiFT (by rfl) T.z_isinstance (by decide +kernel) (pa_cons (pv 1) (pa_cons (pe_tup (pa_cons (pe_tyb "list" (by rfl) T.z_list (by decide +kernel)) (pa_cons (pe_tyb "tuple" (by rfl) T.z_tuple (by decide +kernel)) pa_nil))) pa_nil))))
      (pss_cons (ps_if (PW.pt (pw_or (pt_cmpR op_ne (pe_callB call_isiF (by rfl) T.z_isinstance (by decide +kernel) (pa_cons (pv 0) (pa_cons (pe_tyb "list" (by rfl) T.z_list (by decide +kernel)) pa_nil))) (pe_callB call_isiF (by rfl) T.z_isinstance (by decide +kernel) (pa_cons (pv 1) (pa_cons (pe_tyb "list" (by rfl) T.z_list (by decide +kernel)) pa_nil))) (nomark _)) (pw_or1 (pt_cmpR op_ne (pe_callB call_isiF (by rfl) T.z_isinstance (by decide +kernel) (pa_cons (pv 0) (pa_cons (pe_tyb "tuple" (by rfl) T.z_tuple (by decide +kernel)) pa_nil))) (pe_callB call_isiF (by rfl) T.z_isinstance (by decide +kernel) (pa_cons (pv 1) (pa_cons (pe_tyb "tuple" (by rfl) T.z_tuple (by decide +kernel)) pa_nil))) (nomark _)))))
      (pss_one (ps_ret pe_bl))
      pss_nil)
      (pss_one (ps_ret (pe_and (pe_cmpR op_eq (pe_callB call_len (by rfl) T.z_len PySem.boot_len (pa_cons (pv 0) pa_nil)) (pe_callB call_len (by rfl) T.z_len PySem.boot_len (pa_cons (pv 1) pa_nil)) (nomark _)) (pe_one (pe_callB (cr_all rfl) (by rfl) T.z_all (by decide +kernel) (pa_cons (pe_lc (own := [("_law_a", 2), ("_law_b", 3)]) (g := (gTup K 2 (gCons (gName 2) (gCons (gName 3) gNil)))) rfl sc_l_like.nd (RZ.pi_zipA (by rfl) T.z_zip (pa_cons (pv 0) (pa_cons (pv 1) pa_nil))) (blkOk_by (own := [("_law_a", 2), ("_law_b", 3)]) (N := ["_law_found", "_law_due", "_law_a", "_law_b"]) (sc := defScope s_l_like) (by decide +kernel)) (fun _ _ _ _ _ => (pg_tup rfl (pgs_cons (pg_name (i := 2) sc_l_like.nd rfl (.inl rfl)) (pgs_cons (pg_name (i := 3) sc_l_like.nd rfl (.inl rfl)) pgs_nil)))) (fun _ _ _ _ _ => pts_nil) (fun _ _ _ _ _ => (pe_call G_l_like (hr.mono (by omega)) (by rfl) T.l_like.g T.l_like.kp T.l_like.b .nil pass0 (pa_cons (pv 2) (pa_cons (pv 3) pa_nil))))) pa_nil)))))))
      pss_nil)
      (pss_cons (ps_if (PW.pt (pw_or (pt_cmpR op_isN (pv 1) pe_non (nomark _)) (pw_or1 (pt_cmpR op_isN (pv 0) pe_non (nomark _)))))
      (pss_one (ps_ret (pe_and (pe_cmpR op_isN (pv 1) pe_non (nomark _)) (pe_one (pe_cmpR op_isN (pv 0) pe_non (nomark _))))))
      pss_nil)
      (pss_cons (ps_if (PW.pt (pw_or (pt_val (pe_callB call_isiFT (by rfl) T.z_isinstance (by decide +kernel) (pa_cons (pv 0) (pa_cons (pe_tup (pa_cons (pe_tyb "list" (by rfl) T.z_list (by decide +kernel)) (pa_cons (pe_tyb "tuple" (by rfl) T.z_tuple (by decide +kernel)) pa_nil))) pa_nil)))) (pw_or1 (pt_cmpR op_ne (pe_callB call_isiF (by rfl) T.z_isinstance (by decide +kernel) (pa_cons (pv 0) (pa_cons (pe_tyb "bool" (by rfl) T.z_bool (by decide +kernel)) pa_nil))) (pe_callB call_isiF (by rfl) T.z_isinstance (by decide +kernel) (pa_cons (pv 1) (pa_cons (pe_tyb "bool" (by rfl) T.z_bool (by decide +kernel)) pa_nil))) (nomark _)))))
      (pss_one (ps_ret pe_bl))
      pss_nil)
      (pss_cons (ps_if (PW.pt (pw_or (pt_cmpR op_ne (pe_callB call_isiF (by rfl) T.z_isinstance (by decide +kernel) (pa_cons (pv 0) (pa_cons (pe_tyb "str" (by rfl) T.z_str (by decide +kernel)) pa_nil))) (pe_callB call_isiF (by rfl) T.z_isinstance (by decide +kernel) (pa_cons (pv 1) (pa_cons (pe_tyb "str" (by rfl) T.z_str (by decide +kernel)) pa_nil))) (nomark _)) (pw_or1 (pt_cmpR op_ne (pe_callB call_isiF (by rfl) T.z_isinstance (by decide +kernel) (pa_cons (pv 0) (pa_cons (pe_tyb "int" (by rfl) T.z_int (by decide +kernel)) pa_nil))) (pe_callB call_isiF (by rfl) T.z_isinstance (by decide +kernel) (pa_cons (pv 1) (pa_cons (pe_tyb "int" (by rfl) T.z_int (by decide +kernel)) pa_nil))) (nomark _)))))
      (pss_one (ps_ret pe_bl))
      pss_nil)
      (pss_one (ps_ret (pe_cmpR op_eq (pv 0) (pv 1) (nomark _)))))))), ?_⟩
    cases d with
    | none =>
      unfold Is at hx hy
      subst hx hy
      walk_at "wp"
      exact fun p hp => q _ (same_upd hp)
    | bool b =>
      unfold Is at hx hy
      subst hx hy
      walk_at "wp"
      exact fun p hp => fun p2 hp2 => q _ ((same_upd hp).trans (same_upd hp2))
    | int b =>
      unfold Is at hx hy
      subst hx hy
      walk_at "wp"
      exact fun p hp => fun p2 hp2 => q _ ((same_upd hp).trans (same_upd hp2))
    | str b =>
      unfold Is at hx hy
      subst hx hy
      walk_at "wp"
      exact fun p hp => fun p2 hp2 => q _ ((same_upd hp).trans (same_upd hp2))
    | dict b =>
      unfold Is at hx
      exact hx.elim
    | list ds =>
      cases n with
      | zero => unfold Is at hx; exact hx.elim
      | succ m =>
        unfold Is at hx hy
        obtain ⟨hl, a, xs, rfl, ha, pa⟩ := hx
        obtain ⟨_, c, ys, rfl, hc, pc⟩ := hy
        walk_at "wp"
        intro p hp
        have s1 : Same H (upd H p (HO.tup [V.ty "list", V.ty "tuple"])) := same_upd hp
        have va := vty_same (vty_lst ha) s1
        have vc := vty_same (vty_lst hc) s1
        refine ⟨_, vc, ?_⟩
        walk_at "wp"
        refine ⟨_, va, _, vc, ?_⟩
        walk_at "wp"
        refine ⟨_, va, _, vc, ?_⟩
        walk_at "wp"
        have l1 := paired_len pa
        have l2 := paired_len pc
        refine ⟨xs.length, Or.inl ⟨xs, .inl (.inl (s1 _ _ ha)), rfl⟩, ys.length, Or.inl ⟨ys, .inl (.inl (s1 _ _ hc)), rfl⟩, ?_⟩
        have e0 : ((xs.length : Nat) : Int) = (ys.length : Nat) := by rw [← l1, l2]
        rw [if_pos e0]
        refine ⟨xs, ys, .inl ⟨.inl (.inl (s1 _ _ ha)), .inl (.inl (s1 _ _ hc)), ?_⟩⟩
        exact like_comp (walk_zip (xs := xs) (ys := ys) (by omega)) (fun H2 s2 => ⟨.inl (.inl (s2 _ _ (s1 _ _ ha))), .inl (.inl (s2 _ _ (s1 _ _ hc)))⟩) (paired_mono (fun _ _ z => z.same s1) pa) (paired_mono (fun _ _ z => z.same s1) pc) (fun H' s2 => q _ (s1.trans s2)) hl
    | tuple ds =>
      cases n with
      | zero => unfold Is at hx; exact hx.elim
      | succ m =>
        unfold Is at hx hy
        obtain ⟨hl, a, xs, rfl, ha, pa⟩ := hx
        obtain ⟨_, c, ys, rfl, hc, pc⟩ := hy
        walk_at "wp"
        intro p hp
        have s1 : Same H (upd H p (HO.tup [V.ty "list", V.ty "tuple"])) := same_upd hp
        have va := vty_same (vty_tup ha) s1
        have vc := vty_same (vty_tup hc) s1
        refine ⟨_, vc, ?_⟩
        walk_at "wp"
        refine ⟨_, va, _, vc, ?_⟩
        walk_at "wp"
        refine ⟨_, va, _, vc, ?_⟩
        walk_at "wp"
        have l1 := paired_len pa
        have l2 := paired_len pc
        refine ⟨xs.length, Or.inr ⟨xs, .inl (.inl (s1 _ _ ha)), rfl⟩, ys.length, Or.inr ⟨ys, .inl (.inl (s1 _ _ hc)), rfl⟩, ?_⟩
        have e0 : ((xs.length : Nat) : Int) = (ys.length : Nat) := by rw [← l1, l2]
        rw [if_pos e0]
        refine ⟨xs, ys, .inr ⟨.inl (.inl (s1 _ _ ha)), .inl (.inl (s1 _ _ hc)), ?_⟩⟩
        exact like_comp (walk_zipT (xs := xs) (ys := ys) (by omega)) (fun H2 s2 => ⟨.inl (.inl (s2 _ _ (s1 _ _ ha))), .inl (.inl (s2 _ _ (s1 _ _ hc)))⟩) (paired_mono (fun _ _ z => z.same s1) pa) (paired_mono (fun _ _ z => z.same s1) pc) (fun H' s2 => q _ (s1.trans s2)) hl
end
end Kx

set_option Elab.async false
set_option linter.all false
set_option maxRecDepth 100000
set_option maxHeartbeats 4000000
namespace SE
open PySem PySem.Calls PyProof.Rows PySem.W PySem.SeqAt
section
variable {prog : Program} {w : World} {A : Around} {E : Value → Shared → Prop} {s : Shared}
/-- v is the tuple without items -/
def Nul (h : Heap) (v : Value) : Prop := ∃ as, Reads h v (.tuple []) as
theorem nul_is {h : Heap} {v : Value} (r : Nul h v) : ∃ (a : Addr) (o : Obj) (n : Nat), v = .ref a ∧ h.get? a = some o ∧ o.cls = .type "tuple" ∧ o.data = .seq #[] n := by
  obtain ⟨as, r⟩ := r
  cases r with
  | @tuple a o vs n _ _ h1 h2 h3 h4 =>
    obtain ⟨l⟩ := vs
    cases l with
    | nil => exact ⟨a, o, n, rfl, h1, h2, h3⟩
    | cons x y => cases h4
theorem nul_first {v : Value} {Q : Option Value → Shared → Prop} (r : Nul s.heap v) (q : Q none s) : wpAny (model prog w) A (firstOfTuple' v) Q E s := by
  obtain ⟨a, o, n, e0, h1, h2, h3⟩ := nul_is r
  obtain ⟨as, r⟩ := r
  have l := looks_reads (M := model prog w) r
  subst e0
  rw [kas_first_eq]
  refine wpAny_bind (l.here (wpAny_bind ?_))
  exact listItems_at h1 h3 (wpAny_pure q)
theorem nul_kind {vs : List Value} {Q : SortKind → Shared → Prop} (hv : ∀ v ∈ vs, Nul s.heap v) (h2 : 2 ≤ vs.length) (q : Q oneType' s) : wpAny (model prog w) A (keyKind' vs.toArray) Q E s := by
  have l : ∀ v ∈ vs, Looks (model prog w) s.heap (typeOf v) (dataType (.tuple [])) := fun v m => (hv v m).elim fun _ r => looks_reads r
  obtain ⟨u, vs, rfl⟩ : ∃ u us, vs = u :: us := by
    cases vs with
    | nil => cases h2
    | cons u us => exact ⟨u, us, rfl⟩
  rw [keyKind'_eq, List.mapM_toArray, map_eq_pure_bind]
  refine wpAny_bind (wpAny_bind (kas_mapM (r := none) (u :: vs) (fun v m _ hq => nul_first (hv v m) hq) (wpAny_pure ?_)))
  rw [if_neg (by simp), if_neg (by simp), oneTypeOnly'_eq, List.mapM_toArray, map_eq_pure_bind]
  refine wpAny_bind (wpAny_bind (wpAny_bind (kas_mapM (r := dataType (.tuple [])) (u :: vs) (fun v m _ hq => (l v m).here hq) (wpAny_pure ?_))))
  have e1 : (List.map (fun _ => dataType (.tuple [])) (u :: vs)).toArray[0]? = some (dataType (.tuple [])) := by simp
  have e2 : ((List.map (fun _ => dataType (.tuple [])) (u :: vs)).toArray.all fun x => x == dataType (.tuple [])) = true := by
    rw [List.all_toArray, List.all_map, List.all_eq_true]
    exact fun _ _ => (by decide : (dataType (.tuple []) == dataType (.tuple [])) = true)
  rw [e1]
  simp only [e2, if_true]
  exact wpAny_pure (wpAny_pure q)
theorem nul_lt {x y : Value} {Q : Bool → Shared → Prop} (rx : Nul s.heap x) (ry : Nul s.heap y) (hu : A.units < cLine) (q : Q false s) : wpAny (model prog w) A (oneLt' true x y) Q E s := by
  obtain ⟨a, ⟨c1, d1, e1, s1⟩, n, rfl, h1, h2, h3⟩ := nul_is rx
  obtain ⟨b, ⟨c2, d2, e2, s2⟩, m, rfl, k1, k2, k3⟩ := nul_is ry
  dsimp only at h2 h3 k2 k3
  subst h2 h3 k2 k3
  rw [oneLt'_eq, if_pos rfl]
  refine wpAny_bind (wpAny_cRoomFor hu (wpAny_bind (wpAny_callSpecialIfBound?_slot (T := "tuple") ⟨_, h1, rfl⟩ F.slot_tuple_lt (call_meets F.slot_tuple_lt ⟨_, h1, rfl⟩ F.entry_tuple_lt (F.args_tuple_lt_2 _ _) (tuple_ltAt a b #[] #[] n m d1 d2 s1 s2 (fun _ => true) (fun _ => false)) ⟨h1, k1, fun j j1 => absurd j1 (Nat.not_lt_zero j), fun j j1 => absurd j1 (Nat.not_lt_zero j), ?_⟩))))
  exact wpAny_truthy_bool q
/-- tuples without items can be sorted -/
theorem nul_sorts {vs : List Value} {ds : List PyData} (e : EachIs (fun v d => ∃ as, Reads s.heap v d as) vs ds) (h0 : ∀ d ∈ ds, d = .tuple []) (hu : A.units < cLine) : SortsAt prog w A s (dataKind s.heap ds) vs := by
  have hal : AllAlike ds := fun d hd d' hd' => by rw [h0 d hd, h0 d' hd']; rfl
  have one : ∀ {v : Value} {d : PyData} {as : List Addr}, d ∈ ds → Reads s.heap v d as → Nul s.heap v := fun {v d as} hd r => ⟨as, by rw [← h0 d hd]; exact r⟩
  refine ⟨fun v hv => ?_, oneType', ?_, fun h2 E Q hq => nul_kind (fun v hv => ?_) h2 hq⟩
  · obtain ⟨d, hd, as, r⟩ := e.left v hv
    exact ⟨keyToks d, dataKind_some hal hd r⟩
  · intro E x y ka kb Q ha hb hq
    obtain ⟨d, as, hd, ra, rfl⟩ := dataKind_inv ha
    obtain ⟨d', bs, hd', rb, rfl⟩ := dataKind_inv hb
    rw [keyLt'_oneType]
    refine nul_lt (one hd ra) (one hd' rb) hu ?_
    have z : (dataKind s.heap ds).blt (keyToks d) (keyToks d') = false := by
      rw [h0 d hd, h0 d' hd']
      exact lex_irrefl _
    rw [z] at hq
    exact hq
  · obtain ⟨d, hd, as, r⟩ := e.left v hv
    exact one hd r
/-- alike data can be sorted: tuples of one length among them -/
def Sorts (ds : List PyData) : Prop := AllAlike ds ∧ (Sortable ds ∨ ∀ d ∈ ds, d = .tuple [])
theorem sorts_at {vs : List Value} {ds : List PyData} (e : EachIs (fun v d => ∃ as, Reads s.heap v d as) vs ds) (h : Sorts ds) (hu : ∀ d, d ∈ ds → A.units + d.depth < cLine) : SortsAt prog w A s (dataKind s.heap ds) vs := by
  rcases h.2 with h2 | h2
  · exact SortsAt.data e h.1 h2 hu
  · cases ds with
    | nil => exact SortsAt.data e h.1 (.inl fun d hd => absurd hd (by simp)) hu
    | cons d ds => exact nul_sorts e h2 (Nat.lt_of_le_of_lt (Nat.le_add_right _ _) (hu d List.mem_cons_self))
theorem collect_seq {l : Addr} {o : Obj} {vs : List Value} {n : Nat} {Q : List Value → Shared → Prop} (ho : s.heap.get? l = some o) (hc : o.cls = .type "list" ∨ o.cls = .type "tuple") (hd : o.data = .seq vs.toArray n) (hz : vs.length ≤ sizeLine)
    (q : Q vs { s with heap := (s.heap.push (seqObj "list" #[] 0)).update s.heap.objs.size (Obj.mapSeq (· ++ vs.toArray)) }) : wpAny (model prog w) A (collect (.ref l)) Q E s := by
  have h0 : (s.heap.push (seqObj "list" #[] 0)).get? s.heap.objs.size = some (seqObj "list" #[] 0) := Heap.get?_push_size _ rfl
  have h1 := Heap.get?_push_of_some (seqObj "list" #[] 0) ho
  unfold collect
  refine wpAny_bind (wpAny_runValue (codeAny_builtin entry_proto_collect' (show wpAny _ _ (do again (.builtin "list.__iadd__" ⟨[← newList [], .ref l], []⟩)) _ _ s from wpAny_bind (wpAny_newList (wpAny_pure ⟨Code.quiet_builtin _ (by decide +kernel), codeAny_builtin entry_list_iadd' ?_⟩)))))
  show wpAny _ _ (Builtin.List.listExtendWith (.ref s.heap.objs.size) (.ref l) (.ref s.heap.objs.size)) _ _ { s with heap := s.heap.push (seqObj "list" #[] 0) }
  unfold Builtin.List.listExtendWith
  have fin : wpAny (model prog w) A (do
      let o ← load s.heap.objs.size
      match o.data with
      | .seq xs _ => pure xs.toList
      | _ => unsupported "internal:collect") Q E { s with heap := (s.heap.push (seqObj "list" #[] 0)).update s.heap.objs.size (Obj.mapSeq (· ++ vs.toArray)) } := by
    refine wpAny_bind (wpAny_load (get?_update_seq h0 _) (show wpAny _ _ (pure ((#[] : Array Value) ++ vs.toArray).toList) Q E _ from ?_))
    rw [show ((#[] : Array Value) ++ vs.toArray).toList = vs by simp]
    exact wpAny_pure q
  rcases hc with e | e
  all_goals
    refine wpAny_bind (wpAny_typeOf ⟨o, h1, e⟩ ?_)
    rw [if_pos (by simp)]
    refine wpAny_bind (listItems_at h1 hd (wpAny_bind (listItems_at h0 rfl ?_)))
    rw [if_neg (by simp)]
    exact wpAny_bind (listUpdate_at h0 rfl (wpAny_pure fin) (Nat.zero_le _) (by show (#[] ++ vs.toArray).size ≤ sizeLine + 1; simp only [Array.size_append, List.size_toArray, List.length_nil]; omega))
/-- sorted(xs, key=f), xs a list or a tuple: the sorting of a new list -/
theorem sorted_key {l f : Addr} {o : Obj} {vs : List Value} {n : Nat} {Q : Value → Shared → Prop} (ho : s.heap.get? l = some o) (hc : o.cls = .type "list" ∨ o.cls = .type "tuple") (hd : o.data = .seq vs.toArray n) (hz : vs.length ≤ sizeLine)
    (body : ∀ E' : Value → Shared → Prop, wpAny (model prog w) A.in1.in1 (ksk_tree (s.heap.objs.size + 1) (.ref f) false) (fun r s' => r = .done (.ret .none) ∧ Q (.ref (s.heap.objs.size + 1)) s') E' { s with heap := copyHeap s.heap vs }) :
    wpAny (model prog w) A (call (.builtin "sorted") [.ref l] [(Str.ofString "key", .ref f)]) Q E s := by
  refine call_function_entry_kw kind_sorted plain_sorted entry_sorted (ksk_s1 _ _) ?_
  have e0 : ((s.heap.push (seqObj "list" #[] 0)).update s.heap.objs.size (Obj.mapSeq (· ++ vs.toArray))).objs.size = s.heap.objs.size + 1 := by rw [Heap.size_update, size_push']
  unfold Builtin.«sorted»
  refine wpAny_bind (m := checkCount "sorted" 1 1 _) (wpAny_pure (wpAny_bind (collect_seq ho hc hd hz (wpAny_bind (wpAny_newList ?_ hz)))))
  rw [e0]
  refine wpAny_bind (wpAny_holding (wpAny_call_entry_kw (s := { s with heap := copyHeap s.heap vs }) slot_list_sort ⟨_, copyHeap_at s.heap vs, rfl⟩ entry_list_sort ?_ (ksk_l1 _ _)))
  show wpAny (model prog w) A.in1.in1 (Builtin.«list.sort» ⟨[.ref (s.heap.objs.size + 1)], [(Str.ofString "key", .ref f)]⟩) _ _ { s with heap := copyHeap s.heap vs }
  rw [ksk_t1]
  refine wpAny_mono (body _) (fun r s' h => ?_) fun _ _ e => e
  obtain ⟨rfl, q⟩ := h
  exact ⟨_, rfl, wpAny_pure ⟨_, rfl, q⟩⟩
/-- .. up to the keys' making -/
theorem key_rest {vs : List Value} {f : Addr} {P : PySem.Fin → Shared → Prop} (hz : vs.length ≤ sizeLine)
    (body : ∀ e1, (sortingHeap (copyHeap s.heap vs) (s.heap.objs.size + 1) vs).get? (s.heap.objs.size + 1) = some (seqObj "list" #[] e1) → (sortingHeap (copyHeap s.heap vs) (s.heap.objs.size + 1) vs).get? (s.heap.objs.size + 3) = some (seqObj "list" #[] 0) →
      wpAny (model prog w) A (ksk_rest (s.heap.objs.size + 1) (.ref f) false vs.toArray e1 (.ref (s.heap.objs.size + 3))) P E { s with heap := sortingHeap (copyHeap s.heap vs) (s.heap.objs.size + 1) vs }) :
    wpAny (model prog w) A (ksk_tree (s.heap.objs.size + 1) (.ref f) false) P E { s with heap := copyHeap s.heap vs } := by
  have ho := copyHeap_at s.heap vs
  obtain ⟨e1, h1⟩ : ∃ e1, ((copyHeap s.heap vs).update (s.heap.objs.size + 1) (Obj.mapSeq fun _ => (#[] : Array Value))).get? (s.heap.objs.size + 1) = some (seqObj "list" #[] e1) := ⟨_, get?_update_seq ho fun _ => #[]⟩
  have z0 : (copyHeap s.heap vs).objs.size = s.heap.objs.size + 2 := by
    unfold copyHeap
    rw [size_push', Heap.size_update, size_push']
  have z1 : ((copyHeap s.heap vs).update (s.heap.objs.size + 1) (Obj.mapSeq fun _ => (#[] : Array Value))).objs.size = s.heap.objs.size + 2 := by rw [Heap.size_update, z0]
  have z2 : (((copyHeap s.heap vs).update (s.heap.objs.size + 1) (Obj.mapSeq fun _ => (#[] : Array Value))).push (seqObj "tuple" vs.toArray 0)).objs.size = s.heap.objs.size + 3 := by rw [size_push', z1]
  have b1 := body e1 (Heap.get?_push_of_some _ (Heap.get?_push_of_some _ h1)) (by
    unfold sortingHeap
    rw [← z2]
    exact Heap.get?_push_size _ rfl)
  unfold ksk_tree
  refine wpAny_bind (listItems_at ho rfl (wpAny_bind (listUpdate_at ho rfl (wpAny_bind (seqEpoch_at h1 rfl (wpAny_bind (wpAny_newTuple (wpAny_bind (wpAny_newList (wpAny_holding ?_) (Nat.zero_le _))) (show vs.length ≤ _ from hz))))) (by rw [List.size_toArray]; exact hz) (Nat.zero_le _))))
  rw [← z2] at b1
  rw [z2] at b1 ⊢
  exact b1
end
end SE
namespace Kx
open PySem PySem.Spec PyProof.Rows L2
/-! ### sorted of tuples of whole numbers -/
def TupN (K : PySem.W.Frag) (H : Hp) (t : List Int) (x : V) : Prop := ∃ a, x = .ref a ∧ SqT K H a (t.map V.int)
def encN (t : List Int) : PyData := .tuple (t.map .int)
def leN : List Int → List Int → Bool := PySem.W.dataLe false encN
theorem ints_alike : ∀ (s t : List Int), PySem.W.alikeAll (s.map PyData.int) (t.map PyData.int) = true
  | [], [] => by simp [PySem.W.alikeAll]
  | [], _ :: _ => by simp [PySem.W.alikeAll]
  | _ :: _, [] => by simp [PySem.W.alikeAll]
  | a :: s, b :: t => by simp [PySem.W.alikeAll, PySem.W.alike, ints_alike s t]
theorem ints_depth : ∀ (t : List Int), PyData.depthAll (t.map PyData.int) ≤ 1
  | [] => by simp [PyData.depthAll]
  | a :: t => by
    have := ints_depth t
    simp [PyData.depthAll, PyData.depth]
    omega
theorem sorts_ints {ts : List (List Int)} {d : Nat} (h : ∀ t ∈ ts, t.length = d) : SE.Sorts (ts.map encN) := by
  refine ⟨fun x hx y hy => ?_, ?_⟩
  · obtain ⟨s, _, rfl⟩ := List.mem_map.mp hx
    obtain ⟨t, _, rfl⟩ := List.mem_map.mp hy
    simpa [encN, PySem.W.alike] using ints_alike s t
  · cases d with
    | zero =>
      refine .inr fun x hx => ?_
      obtain ⟨s, hs, rfl⟩ := List.mem_map.mp hx
      rw [List.eq_nil_of_length_eq_zero (h s hs)]
      rfl
    | succ d =>
      refine .inl (.inl fun x hx => ?_)
      obtain ⟨s, hs, rfl⟩ := List.mem_map.mp hx
      have := h s hs
      cases s with
      | nil => cases this
      | cons a s => exact ⟨_, _, rfl⟩
theorem dp_ints {K : PySem.W.Frag} {H : Hp} : ∀ (t : List Int), DpAll K H (t.map V.int) (t.map PyData.int)
  | [] => .nil
  | a :: t => .cons (.int a) (dp_ints t)
theorem each_of {α : Type} {R : Value → α → Prop} {S : α → V → Prop} (h : ∀ x v b, RelV x v → S b x → R v b) : ∀ {xs : List V} {us : List Value} {bs : List α}, Vals xs us → Paired S bs xs → PySem.W.EachIs R us bs
  | _, _, _, .nil, .nil => .nil
  | _, _, _, .cons r rs, .cons p ps => .cons (h _ _ _ r p) (each_of h rs ps)
theorem of_each {α : Type} {S : α → V → Prop} : ∀ {us : List Value} {bs : List α}, PySem.W.EachIs (fun v b => ∃ x, RelV x v ∧ S b x) us bs → ∃ xs, Vals xs us ∧ Paired S bs xs
  | _, _, .nil => ⟨[], .nil, .nil⟩
  | _, _, .cons ⟨x, r, p⟩ rest => by
    obtain ⟨xs, h1, h2⟩ := of_each rest
    exact ⟨x :: xs, .cons r h1, .cons p h2⟩
section
variable {X : Cx}
def rSortN (K : PySem.W.Frag) : List V → Hp → VK → Prop := fun vs H Q => ∃ (a : Addr) (xs : List V) (ts : List (List Int)) (d : Nat) (S : List Int → V → Prop), vs = [.ref a] ∧ SqL K H a xs ∧ (∀ t x, S t x → TupN K H t x) ∧ Paired S ts xs ∧ (∀ t ∈ ts, t.length = d) ∧
  ∀ p ys, H p = none → Paired S (ts.mergeSort leN) ys → ys.length = xs.length → Q (.ref p) (upd H p (.lst ys))
theorem call_sortN (hu : X.A.units + 64 < cLine) : CallR X (.builtin "sorted") (rSortN X.K) := by
  intro pins s σ H vs us Q I r h
  obtain ⟨a, xs, ts, d, S, rfl, hs, hS, hp, hd, q⟩ := h
  obtain ⟨its, rv, hl, hz⟩ := I.list hs
  rw [Vals.ref1 r]
  have hr : PySem.W.EachIs (fun v t => ∃ x, RelV x v ∧ S t x) its ts := each_of (fun x v t r p => ⟨x, r, p⟩) rv hp
  have rd : ∀ (v : Value) (t : List Int), (∃ x, RelV x v ∧ S t x) → ∃ as, Reads (PySem.W.sortingHeap (PySem.W.copyHeap s.heap its) (s.heap.objs.size + 1) its) v (encN t) as := fun v t ⟨x, rx, hx⟩ => by
    obtain ⟨b, e, hb⟩ := hS t x hx
    subst e
    obtain ⟨as, h⟩ := Dp.reads I (encN t) _ v (.tup hb (dp_ints t)) rx
    exact ⟨as, PyProof.Rows.Reads.keeps (fun _ _ => PySem.W.sorting_copy_old) h⟩
  have er := hr.mono rd
  have dep : ∀ x ∈ ts.map encN, X.A.in1.in1.units + x.depth < cLine := fun x hx => by
    obtain ⟨t, _, rfl⟩ := List.mem_map.mp hx
    have := ints_depth t
    have e : (encN t).depth ≤ 2 := by simp [encN, PyData.depth]; omega
    have e2 : X.A.in1.in1.units = X.A.units + 2 := rfl
    omega
  have hlen : its.length = xs.length := rv.length.symm
  refine PySem.W.sorted_vals hl.isList (SE.sorts_at (s := { s with heap := PySem.W.sortingHeap (PySem.W.copyHeap s.heap its) (s.heap.objs.size + 1) its }) (PySem.W.each_map (R := fun v d => ∃ as, Reads (PySem.W.sortingHeap (PySem.W.copyHeap s.heap its) (s.heap.objs.size + 1) its) v d as) encN er) (sorts_ints hd) dep) (by rw [hlen]; exact hz) ?_
  have out := PySem.W.sortVals_data false hr er (sorts_ints hd).1
  generalize hv : PySem.W.sortVals _ false its its = vs at out ⊢
  have vl : vs.length = its.length := by rw [← hv]; exact PySem.W.sortVals_length false rfl
  obtain ⟨ys, h1, h2⟩ := of_each out
  obtain ⟨ep, he⟩ := PyProof.Rows.sortedAll_at s.heap its vs.toArray
  have yl : ys.length = xs.length := by rw [h1.length, vl, hlen]
  exact ⟨.ref _, upd H (s.heap.objs.size + 1) (.lst ys), I.laid (t' := s.toks) (fun _ _ => PyProof.Rows.sortedAll_old) (Nat.le_succ _) ⟨by rw [yl]; exact hz, vs, ep, h1, he⟩, rfl, q _ ys (I.hok.fresh (Nat.le_succ _)) h2 yl⟩
end
end Kx
namespace Kx
open PySem PySem.Spec PyProof.Rows L2
section
variable {X : Cx} {pins : List (Addr × Obj)} {σ : L2.St} {H : Hp} {s : Shared}
theorem sqT_same {K : PySem.W.Frag} {H H' : Hp} {a : Addr} {xs : List V} (h : SqT K H a xs) (e : Same H H') : SqT K H' a xs := by
  rcases h with (h | ⟨o, h⟩) | h
  · exact .inl (.inl (e _ _ h))
  · exact .inl (.inr ⟨o, e _ _ h⟩)
  · exact .inr h
/-- things of ours that nobody tracks may be forgotten -/
theorem inv_drop {ch : List Addr} (I : Inv X pins σ H s) (hn : ∀ b ∈ ch, H b = none)
    (hch : ∀ b ∈ ch, (b ∈ X.ex ∨ X.s_0.heap.objs.size ≤ b) ∧ b ≠ X.env.locals ∧ (∀ x c, X.env.cells.lookup x = some c → c ≠ b) ∧ ∀ p ∈ X.pn ++ pins, p.1 ≠ b) :
    ∃ G : Heap, (∀ b, b ∉ ch → G.get? b = s.heap.get? b) ∧ (∀ b ∈ ch, G.get? b = none) ∧ ∀ t, Inv X pins σ H { s with heap := G, toks := t } := by
  obtain ⟨G, g1, g2⟩ := restrict s.heap fun b => decide (b ∉ ch)
  have k : ∀ b, b ∉ ch → G.get? b = s.heap.get? b := fun b h => g1 b (decide_eq_true h)
  have nt : ∀ b u, H b = some u → b ∉ ch := fun b u e z => by
    rw [hn b z] at e
    cases e
  refine ⟨G, k, fun b h => g2 b (decide_eq_false fun z => z h), fun t => ?_⟩
  refine I.call (g' := s.gens) (t' := t) (d' := s.drawn) (ch := ch) ⟨fun b o e _ _ hc => (k b hc).trans e, fun b o e _ _ hc => ⟨o.slots, (k b hc).trans e⟩, fun _ _ _ n _ => n, fun b o e hc => ⟨o, (k b hc).trans e⟩, fun _ _ e => e, fun _ _ _ e => e, fun _ ps e => ⟨#[], by rw [e]; simp⟩⟩ (fun b u e => ?_) I.bare hch
  refine (I.hok b u e).stay (fun c v hc q => (k c ?_).trans q) (fun _ q => q) fun _ _ q => q
  rcases hc with z | z
  · rw [z]
    exact nt b u e
  · exact nt c _ z
/-- what is new can be forgotten -/
theorem inv_newer {b : Addr} (I : Inv X pins σ H s) (h : s.heap.objs.size ≤ b) : (b ∈ X.ex ∨ X.s_0.heap.objs.size ≤ b) ∧ b ≠ X.env.locals ∧ (∀ x c, X.env.cells.lookup x = some c → c ≠ b) ∧ (∀ p ∈ X.pn ++ pins, p.1 ≠ b) ∧ b ∉ frs X.stack := by
  have no : ∀ {c : Addr} {o : Obj}, s.heap.get? c = some o → c ≠ b := fun {c o} e z => by
    have q := Heap.lt_size e
    rw [z] at q
    exact Nat.not_lt.mpr h q
  refine ⟨.inr (Nat.le_trans I.sz h), fun z => ?_, fun x c e => ?_, fun p hp => no (I.pin p hp).1, fun z => ?_⟩
  · obtain ⟨m, ⟨o, _, _, ho, _⟩, _⟩ := I.loc
    exact no ho z.symm
  · obtain ⟨v, o, ho, _⟩ := I.cell x c e
    exact no ho
  · obtain ⟨_, o, ho, _⟩ := I.stack.mem z
    exact no ho rfl
end
section
variable {X : Cx} {β : Type}
/-- sorted(xs, key=f), f of each a tuple of whole numbers -/
def rSortK (K : PySem.W.Frag) (Φ : Hp → β → V → Prop) (key : β → List Int) : V → Hp → VK → Prop := fun v H Q => ∃ (a : Addr) (xs : List V) (bs : List β) (d : Nat), v = .ref a ∧ (SqL K H a xs ∨ SqT K H a xs) ∧ Paired (Φ H) bs xs ∧ (∀ b ∈ bs, (key b).length = d) ∧
  ∀ p ys H', H p = none → Same H H' → H' p = some (.lst ys) → Paired (Φ H') (bs.mergeSort (PySem.W.dataLe false fun b => encN (key b))) ys → ys.length = xs.length → Q (.ref p) H'
theorem paired_get {α γ : Type} {R : α → γ → Prop} : ∀ {as : List α} {cs : List γ}, Paired R as cs → ∀ {i : Nat} {c : γ}, cs[i]? = some c → ∃ a, as[i]? = some a ∧ R a c
  | _, _, .nil, _, _, h => by simp at h
  | _, _, .cons a b, 0, _, h => by cases h; exact ⟨_, rfl, a⟩
  | _, _, .cons a b, i + 1, _, h => paired_get b h
theorem run_sortK {k : Nat} {f : Addr} {fd : FuncData} {ps : List Str} {sp : Sp} {Φ : Hp → β → V → Prop} {key : β → List Int} (F : FnOk X.prog X.w X.K X.mg X.base CX0 k f fd ps sp) (hr : Room (k + 2) X.A) (hb : Binds X.K fd ps []) (h1 : ps.length = 1)
    (hΦ : ∀ b x H H', Same H H' → Φ H b x → Φ H' b x) (hsp : ∀ b x H (Q : VK), Φ H b x → (∀ p H', Same H H' → H' p = some (.tup ((key b).map V.int)) → Q (.ref p) H') → sp [x] H Q E0)
    {pins : List (Addr × Obj)} {σ : L2.St} {H : Hp} {s : Shared} {v : V} {u : Value} {Q : VK} (I : Inv X pins σ H s) (r : RelV v u) (h : rSortK X.K Φ key v H Q) :
    wpAny (model X.prog X.w) X.A (call (.builtin "sorted") [u] [(Str.ofString "key", .ref f)]) (EP X pins σ Q) X.xe s := by
  obtain ⟨l, xs, bs, d, rfl, hs, hp, hd, q⟩ := h
  obtain rfl : u = Value.ref l := r
  obtain ⟨its, rv, hz, o, n, ho, hc, hod⟩ : ∃ its : List Value, Vals xs its ∧ xs.length ≤ sizeLine ∧ ∃ (o : Obj) (n : Nat), s.heap.get? l = some o ∧ (o.cls = .type "list" ∨ o.cls = .type "tuple") ∧ o.data = .seq its.toArray n := by
    rcases hs with hs | hs
    · obtain ⟨its, rv, ⟨o, n, ho, hc, _, hd⟩, hz⟩ := I.list hs
      exact ⟨its, rv, hz, o, n, ho, .inl hc, hd⟩
    · obtain ⟨its, rv, ⟨o, ho, hc, n, hd⟩, hz⟩ := I.tuple hs
      exact ⟨its, rv, hz, o, n, ho, .inr hc, hd⟩
  have hlen : its.length = xs.length := rv.length.symm
  have hbl : bs.length = xs.length := paired_len hp
  have hzi : its.length ≤ sizeLine := by rw [hlen]; exact hz
  refine SE.sorted_key ho hc hod hzi fun E' => SE.key_rest hzi fun e1 ha hk => ?_
  have ga := inv_newer I (b := s.heap.objs.size + 1) (Nat.le_succ _)
  have gk := inv_newer I (b := s.heap.objs.size + 3) (by omega)
  have ka : s.heap.objs.size + 3 ≠ s.heap.objs.size + 1 := by omega
  have na : H (s.heap.objs.size + 1) = none := I.hok.fresh (Nat.le_succ _)
  have nk : H (s.heap.objs.size + 3) = none := I.hok.fresh (by omega)
  generalize hA : s.heap.objs.size + 1 = a at *
  generalize hK : s.heap.objs.size + 3 = kS at *
  have I0 : Inv X pins σ H { s with heap := PySem.W.sortingHeap (PySem.W.copyHeap s.heap its) a its } := I.kept (t' := s.toks) fun b u e => by
    rw [← hA]
    exact PySem.W.sorting_copy_old e
  have hX : ∀ {σ' : L2.St} {H' : Hp} {s' : Shared}, Inv X pins σ' H' s' → ∀ b ∈ [a, kS], (b ∈ X.ex ∨ X.s_0.heap.objs.size ≤ b) ∧ b ≠ X.env.locals ∧ (∀ x c, X.env.cells.lookup x = some c → c ≠ b) ∧ ∀ p ∈ X.pn ++ pins, p.1 ≠ b := fun _ b hb => by
    simp only [List.mem_cons, List.not_mem_nil, or_false] at hb
    rcases hb with rfl | rfl
    · exact ⟨ga.1, ga.2.1, ga.2.2.1, ga.2.2.2.1⟩
    · exact ⟨gk.1, gk.2.1, gk.2.2.1, gk.2.2.2.1⟩
  unfold PyProof.Rows.ksk_rest
  refine wpAny_bind (wpAny_rule ?_)
  rw [List.forIn_toArray]
  refine wpAny_bind (PyProof.Rows.ksk_fold (fun j s' => ∃ (H' : Hp) (kA : Array Value) (e : Nat) (kV : List V), Same H H' ∧ Inv X pins σ H' s' ∧ s'.heap.get? kS = some (seqObj "list" kA e) ∧ s'.heap.get? a = some (seqObj "list" #[] e1) ∧ H' a = none ∧ H' kS = none ∧
    Vals kV kA.toList ∧ Paired (TupN X.K H') ((bs.take j).map key) kV) its 0 _ ⟨H, #[], 0, [], Same.refl _, I0, hk, ha, na, nk, .nil, by rw [List.take_zero]; exact .nil⟩ (fun j x s' hx hJ => ?_) fun s' hJ => ?_)
  · obtain ⟨H', kA, e, kV, sm, I1, hk1, ha1, na1, nk1, rk, pk⟩ := hJ
    rw [Nat.zero_add] at pk ⊢
    have hji : j < its.length := (List.getElem?_eq_some_iff.mp hx).1
    have hjx : j < xs.length := by omega
    obtain ⟨u2, hu2, rx⟩ := rv.get (i := j) (x := xs[j]) (List.getElem?_eq_getElem hjx)
    obtain rfl : u2 = x := Option.some.inj (hu2.symm.trans hx)
    obtain ⟨b, hbj, hbx⟩ := paired_get hp (List.getElem?_eq_getElem hjx)
    have hkz : kA.size = j := by
      have e1 : kV.length = kA.size := by rw [rk.length]; exact Array.length_toList
      have e2 := paired_len pk
      rw [List.length_map, List.length_take] at e2
      omega
    have hroom : Room k X.A.in1.in1 := Room.in1 (Room.in1 hr)
    have hrun := F.run X.A.in1.in1 X.stack s' H' ⟨[u2], []⟩ ([u2] ++ []) [xs[j]] (fun v H2 => ∃ p, v = .ref p ∧ Same H' H2 ∧ H2 p = some (.tup ((key b).map V.int))) E0 hroom (Env0.in1 (Env0.in1 I1.env0)) (hb s' [u2] I1.kIn h1.symm) (.cons rx .nil)
      (hsp b _ H' _ (hΦ _ _ _ _ sm hbx) fun p H2 e1 e2 => ⟨p, rfl, e1, e2⟩)
    refine wpAny_bind (wpAny_attempt (wpAny_call (codeAny_mono hrun fun r s2 hq => ?_)))
    cases r with
    | error er => exact False.elim hq
    | ok fl =>
      cases fl with
      | next => exact False.elim hq
      | brk => exact False.elim hq
      | cont => exact False.elim hq
      | ret g =>
        obtain ⟨v2, H2, os, bare, un, hok, rg, p, rfl, e2, e3⟩ := hq
        have I2 := I1.call' (ch := []) os un hok bare (fun b z => absurd z (by simp))
        have hk2 := un.keep kS _ hk1 nk1 gk.2.2.2.2 (by simp)
        have ha2 := un.keep a _ ha1 na1 ga.2.2.2.2 (by simp)
        have nk2 := un.free kS _ hk1 nk1 (by simp)
        have na2 := un.free a _ ha1 na1 (by simp)
        have sb := Heap.SameBut.update s2.heap kS (Obj.mapSeq (·.push g))
        obtain ⟨c2, hc2⟩ : ∃ c2, (s2.heap.update kS (Obj.mapSeq (·.push g))).get? kS = some (seqObj "list" (kA.push g) c2) := ⟨_, get?_update_seq hk2 (·.push g)⟩
        have I3 : Inv X pins σ H2 { s2 with heap := s2.heap.update kS (Obj.mapSeq (·.push g)) } := I2.turned (t' := s2.toks) (it := kS) (fun b o hb q => (sb.2 b hb).trans q) nk2 gk.2.1 gk.1 gk.2.2.1 gk.2.2.2.1
        refine wpAny_bind (listUpdate_at hk2 rfl (wpAny_pure ⟨rfl, H2, kA.push g, c2, kV ++ [.ref p], sm.trans e2, I3, hc2, (sb.2 a (Ne.symm ka)).trans ha2, na2, nk2, ?_, ?_⟩) (by omega) (by rw [Array.size_push]; omega))
        · rw [Array.toList_push]
          exact rk.append (.cons rg .nil)
        · rw [List.take_add_one, hbj, List.map_append]
          refine Paired.snoc (paired_mono (fun t x ⟨a, h1, h2⟩ => ⟨a, h1, sqT_same h2 e2⟩) pk) ⟨p, rfl, .inl (.inl e3)⟩
  · obtain ⟨H', kA, e, kV, sm, I1, hk1, ha1, na1, nk1, rk, pk⟩ := hJ
    rw [Nat.zero_add, List.take_of_length_le (by omega)] at pk
    have hkz : kA.size = its.length := by
      have e1 : kV.length = kA.size := by rw [rk.length]; exact Array.length_toList
      have e2 := paired_len pk
      rw [List.length_map] at e2
      omega
    refine wpAny_bind (listItems_at hk1 rfl ?_)
    obtain ⟨G, g1, g2, _⟩ := inv_drop (ch := [kS]) I1 (fun b hb => by cases List.mem_singleton.mp hb; exact nk1) (fun b hb => hX I1 b (by simp [List.mem_singleton.mp hb]))
    obtain ⟨G2, g3, g4, I4⟩ := inv_drop (ch := [a, kS]) I1 (fun b hb => by
      simp only [List.mem_cons, List.not_mem_nil, or_false] at hb
      rcases hb with rfl | rfl
      · exact na1
      · exact nk1) (hX I1)
    have hr2 : PySem.W.EachIs (fun v t => ∃ x, RelV x v ∧ TupN X.K H' t x) kA.toList (bs.map key) := each_of (fun x v t r p => ⟨x, r, p⟩) rk pk
    have er := hr2.mono (R' := fun v t => ∃ as, Reads s'.heap v (encN t) as) fun v t ⟨x, rx, b, e, hb⟩ => by
      subst e
      exact Dp.reads I1 (encN t) _ v (.tup hb (dp_ints t)) rx
    have eL : (bs.map key).map encN = bs.map fun b => encN (key b) := by rw [List.map_map]; rfl
    have dl : ∀ t ∈ bs.map key, t.length = d := fun t ht => by
      obtain ⟨b, hb, rfl⟩ := List.mem_map.mp ht
      exact hd b hb
    have dep : ∀ x ∈ (bs.map key).map encN, X.A.in1.in1.units + x.depth < cLine := fun x hx => by
      obtain ⟨t, _, rfl⟩ := List.mem_map.mp hx
      have := ints_depth t
      have e : (encN t).depth ≤ 2 := by simp [encN, PyData.depth]; omega
      have hu := (Room.in1 (Room.in1 hr)).units
      omega
    have hK := PySem.W.each_map (R := fun v d => ∃ as, Reads s'.heap v d as) encN er
    have hS := SE.sorts_at (prog := X.prog) (w := X.w) (A := X.A.in1.in1) hK (sorts_ints dl) dep
    refine PySem.W.keyH_end (h₁ := G) (fun b o hb e => ?_) (g2 kS List.mem_cons_self) hk1 ha1 ka hS hkz hzi fun h' tk c kp ho' => ⟨rfl, ?_⟩
    · by_cases hbk : b = kS
      · rw [hbk, g2 kS List.mem_cons_self] at e
        cases e
      · rw [← g1 b (by simpa using hbk)]
        exact e
    · have hEx : PySem.W.EachIs (fun v b => ∃ x, RelV x v ∧ Φ H b x) its bs := each_of (fun x v t r p => ⟨x, r, p⟩) rv hp
      have ko : PySem.W.KeyedOut false (bs.map fun b => encN (key b)) its (PySem.W.sortVals (PySem.W.dataKind s'.heap ((bs.map key).map encN)) false kA.toList its) := by
        rw [eL] at hK ⊢
        exact ⟨s'.heap, kA.toList, by rw [← eL]; exact (sorts_ints dl).1, rfl, hK⟩
      have out := PySem.W.keyedOut_each (fun b => encN (key b)) ko hEx
      have ol := ko.length (by rw [List.length_map]; omega)
      generalize PySem.W.sortVals _ false kA.toList its = vs at out ol ho'
      obtain ⟨ys, y1, y2⟩ := of_each out
      have yl : ys.length = xs.length := by rw [y1.length, ol, hlen]
      have hg : ∀ b o, G2.get? b = some o → h'.get? b = some o := fun b o e => by
        by_cases hb : b ∈ [a, kS]
        · rw [g4 b hb] at e
          cases e
        · simp only [List.mem_cons, List.not_mem_nil, or_false, not_or] at hb
          refine kp b o hb.1 ?_
          rw [g1 b (by simpa using hb.2), ← g3 b (by simp [hb.1, hb.2])]
          exact e
      refine ⟨.ref a, upd H' a (.lst ys), (I4 tk).laidN (t' := tk) hg (g4 a (by simp)) na1 ⟨by rw [yl]; exact hz, vs, c, y1, ho'⟩, rfl, q a ys _ na (sm.trans (same_upd na1)) upd_same (paired_mono (fun b x h => hΦ _ _ _ _ (sm.trans (same_upd na1)) h) y2) yl⟩
/-- a key of the program's own -/
def SK (P : Program) (w : World) (K : PySem.W.Frag) (mg : Str → Option Value) (base : Heap) (k : Nat) (f : Addr) (Φ : Hp → β → V → Prop) (key : β → List Int) : Prop := ∃ (fd : FuncData) (ps : List Str) (sp : Sp), FnOk P w K mg base CX0 k f fd ps sp ∧ Binds K fd ps [] ∧ ps.length = 1 ∧
  (∀ b x H H', Same H H' → Φ H b x → Φ H' b x) ∧ ∀ b x H (Q : VK), Φ H b x → (∀ p H', Same H H' → H' p = some (.tup ((key b).map V.int)) → Q (.ref p) H') → sp [x] H Q E0
def rSortKw (K : PySem.W.Frag) (f : Addr) (Φ : Hp → β → V → Prop) (key : β → List Int) : List V → List V → Hp → VK → Prop := fun vs zs H Q => ∃ v, vs = [v] ∧ zs = [.ref f] ∧ rSortK K Φ key v H Q
theorem cr_sortK {k : Nat} {f : Addr} {Φ : Hp → β → V → Prop} {key : β → List Int} (hr : Room (k + 2) X.A) (F : SK X.prog X.w X.K X.mg X.base k f Φ key) : CallRK X (.builtin "sorted") [Str.ofString "key"] (rSortKw X.K f Φ key) := by
  obtain ⟨fd, ps, sp, F, hb, h1, hΦ, hsp⟩ := F
  intro pins s σ H vs zs us ws Q I r rz h
  obtain ⟨v, rfl, rfl, h⟩ := h
  obtain ⟨u, rfl, ru⟩ := vals1 r
  obtain ⟨g, rfl, rg⟩ := vals1 rz
  obtain rfl : g = Value.ref f := rg
  exact run_sortK F hr hb h1 hΦ hsp I ru h
end
end Kx

set_option Elab.async false
set_option linter.all false
set_option maxRecDepth 100000
set_option maxHeartbeats 4000000
namespace Kx
open PySem PySem.Spec PyProof.Rows L2
/-! ### tuple * int, of any count -/
theorem tup_once (l : Addr) (its : Array Value) (n : Nat) (dd : Option Addr) (sl : Array (Option Value)) (u : Tok) :
    Meets (Builtin.«tuple.__mul__» ⟨[.ref l, .int 1 u], []⟩) (fun _ R s => s.heap.get? l = some { cls := .type "tuple", dict := dd, data := .seq its n, slots := sl } ∧ R (.ok (.ret (.ref l))) s) :=
  .of_wp fun prog w A R s h => by
    obtain ⟨hp, g, d, tk, os⟩ := s
    obtain ⟨hl, h⟩ := h
    have f1 := AutoSeq1.idx_int
    have e1 : (its.isEmpty || (1 : Int) == 1) = true := by simp
    wp_walk using wpAny_loadPart' hl
    repeat (first
      | (refine wpAny_ite_false (by decide) ?_; wp_walk using wpAny_loadPart' hl)
      | (refine wpAny_ite_true (decide_eq_true e1) ?_; wp_walk using wpAny_loadPart' hl))
    exact ⟨_, rfl, h⟩
theorem tup_never (l : Addr) (its : Array Value) (n : Nat) (dd : Option Addr) (sl : Array (Option Value)) (u : Tok) (hi : its.isEmpty = false) :
    Meets (Builtin.«tuple.__mul__» ⟨[.ref l, .int 0 u], []⟩) (fun _ R s => s.heap.get? l = some { cls := .type "tuple", dict := dd, data := .seq its n, slots := sl } ∧
      R (.ok (.ret (.ref s.heap.objs.size))) { s with heap := s.heap.push { cls := Value.type "tuple", data := Data.seq #[] } }) :=
  .of_wp fun prog w A R s h => by
    obtain ⟨hp, g, d, tk, os⟩ := s
    obtain ⟨hl, h⟩ := h
    have f1 := AutoSeq1.idx_int
    have e1 : (its.isEmpty || (0 : Int) == 1) = false := by rw [hi]; rfl
    have e2 : (decide ((0 : Int) ≤ 0) || its.isEmpty) = true := by simp
    wp_walk using wpAny_loadPart' hl
    repeat (first
      | (refine wpAny_ite_false (by decide) ?_; wp_walk using wpAny_loadPart' hl)
      | (refine wpAny_ite_false (decide_eq_false (by rw [e1]; exact Bool.false_ne_true)) ?_; wp_walk using wpAny_loadPart' hl)
      | (refine wpAny_ite_true (decide_eq_true e2) ?_; wp_walk using wpAny_loadPart' hl))
    exact ⟨_, rfl, h⟩
def rRepU : R2 := fun x y H Q => ∃ l k xs, x = .ref l ∧ y = .int k ∧ H l = some (.tup xs) ∧ xs ≠ [] ∧ 0 ≤ k ∧ k ≤ 1000 ∧ xs.length ≤ 1000 ∧ ∀ p H', Same H H' → H' p = some (.tup (List.replicate k.toNat xs).flatten) → Q (.ref p) H'
theorem op_repU {X : Cx} : OpR X (binaryOp .Mult) rRepU := by
  intro pins s σ H x y v u Q I rx ry h
  obtain ⟨l, k, xs, rfl, rfl, hl, hne, h0, h1, hz, q⟩ := h
  rcases (by omega : k = 0 ∨ k = 1 ∨ 2 ≤ k) with e | e | e
  · subst e
    cases rx
    obtain ⟨t, rfl⟩ := ry
    obtain ⟨its, r, ⟨⟨cls, dd, data, sl⟩, ho, hc, n, hd⟩, hs⟩ := I.tuple (.inl (.inl hl))
    simp only at hc hd
    subst hc hd
    have hi : its.toArray.isEmpty = false := by
      cases r with
      | nil => exact absurd rfl hne
      | cons _ _ => rfl
    refine wpAny_binaryOp_repeat_ref (T := "tuple") (U := "int") (by decide) ⟨_, ho, rfl⟩ (fun s' => typeIs_int s' 0 t) noFill_tuple_mul F.fills_int_mul F.slot_int_rmul repeat_tuple F.slot_int_index.lookup
      (call_meets F.slot_int_rmul (typeIs_int s 0 t) F.entry_int_rmul (F.args_int_rmul_2 _ _) (int_rmul_tuple 0 t l its.toArray n dd sl)
        ⟨ho, rfl, ⟨_, ho, rfl⟩, call_meets F.slot_tuple_mul ⟨_, ho, rfl⟩ F.entry_tuple_mul (F.args_tuple_mul_2 _ _) (tup_never l its.toArray n dd sl t hi) ⟨ho, ?_⟩⟩)
    have hf : H s.heap.objs.size = none := I.hok.fresh (Nat.le_refl _)
    exact ⟨.ref s.heap.objs.size, _, I.laid (t' := s.toks) (o := .tup []) (fun b ob q => Heap.get?_push_of_some _ q) (Nat.le_refl _) ⟨Nat.zero_le _, [], .nil, IsTup.new _ _⟩, rfl, q _ _ (same_upd hf) upd_same⟩
  · subst e
    cases rx
    obtain ⟨t, rfl⟩ := ry
    obtain ⟨its, r, ⟨⟨cls, dd, data, sl⟩, ho, hc, n, hd⟩, hs⟩ := I.tuple (.inl (.inl hl))
    simp only at hc hd
    subst hc hd
    refine wpAny_binaryOp_repeat_ref (T := "tuple") (U := "int") (by decide) ⟨_, ho, rfl⟩ (fun s' => typeIs_int s' 1 t) noFill_tuple_mul F.fills_int_mul F.slot_int_rmul repeat_tuple F.slot_int_index.lookup
      (call_meets F.slot_int_rmul (typeIs_int s 1 t) F.entry_int_rmul (F.args_int_rmul_2 _ _) (int_rmul_tuple 1 t l its.toArray n dd sl)
        ⟨ho, rfl, ⟨_, ho, rfl⟩, call_meets F.slot_tuple_mul ⟨_, ho, rfl⟩ F.entry_tuple_mul (F.args_tuple_mul_2 _ _) (tup_once l its.toArray n dd sl t) ⟨ho, ?_⟩⟩)
    exact ⟨.ref l, H, I, rfl, q l H (Same.refl _) (by rw [hl]; simp)⟩
  · exact op_repT pins s σ H _ _ v u Q I rx ry ⟨l, k, xs, rfl, rfl, .inl (.inl hl), hne, e, h1, hz, fun p hp => q p _ (same_upd hp) upd_same⟩
end Kx

set_option Elab.async false
set_option linter.all false
set_option maxRecDepth 100000
set_option maxHeartbeats 4000000
namespace Kx
open PySem PySem.Spec PyProof.Rows L2
/-! ### tuples put together and cut: the answer is some tuple -/
def rCatU : R2 := fun x y H Q => ∃ a b xs ys, x = .ref a ∧ y = .ref b ∧ H a = some (.tup xs) ∧ H b = some (.tup ys) ∧ xs.length + ys.length ≤ 100000 ∧ ∀ p H', Same H H' → H' p = some (.tup (xs ++ ys)) → Q (.ref p) H'
theorem op_catU {X : Cx} : OpR X (binaryOp .Add) rCatU := fun pins s σ H x y v u Q I rx ry h => by
  obtain ⟨a, b, xs, ys, rfl, rfl, ha, hb, hz, q⟩ := h
  refine op_catA pins s σ H _ _ v u Q I rx ry ⟨a, b, xs, ys, rfl, rfl, .inl (.inl ha), .inl (.inl hb), Nat.le_trans hz (by decide), fun e => q _ _ (Same.refl _) (by rw [e]; exact hb), fun _ e => q _ _ (Same.refl _) (by rw [e, List.append_nil]; exact ha), fun _ _ p hp => q _ _ (same_upd hp) upd_same⟩
def rTupU : List V → Hp → VK → Prop := fun vs H Q => ∃ a xs, vs = [.ref a] ∧ (H a = some (.lst xs) ∨ H a = some (.tup xs)) ∧ ∀ p H', Same H H' → H' p = some (.tup xs) → Q (.ref p) H'
theorem call_tuple_ofU {X : Cx} : CallR X (.type "tuple") rTupU := fun pins s σ H vs us Q I r h => by
  obtain ⟨a, xs, rfl, ha, q⟩ := h
  refine call_tuple_of pins s σ H _ us Q I r ⟨a, xs, rfl, ?_⟩
  rcases ha with ha | ha
  · exact .inl ⟨.inl (.inl ha), fun p hp => q _ _ (same_upd hp) upd_same⟩
  · exact .inr ⟨.inl (.inl ha), q _ _ (Same.refl _) ha⟩
def rSlU : V → Option Int → Option Int → Hp → VK → Prop := fun x lo hi H Q => ∃ a xs, x = .ref a ∧ H a = some (.tup xs) ∧ ∀ p H', Same H H' → H' p = some (.tup (cutV xs lo hi)) → Q (.ref p) H'
theorem sl_tupU {X : Cx} : SlR X rSlU := fun pins s σ H x v vl vu lo hi sl Q I rx hs pl pu h => by
  obtain ⟨a, xs, rfl, ha, q⟩ := h
  refine sl_tupA pins s σ H _ v vl vu lo hi sl Q I rx hs pl pu ⟨a, xs, rfl, .inl (.inl ha), fun e => q _ _ (Same.refl _) ?_, fun _ p hp => q _ _ (same_upd hp) upd_same⟩
  have z : cutV xs lo hi = xs := by
    unfold cutV
    rw [e.1, e.2, List.drop_zero, Nat.sub_zero, List.take_length]
  rw [z]
  exact ha
end Kx

set_option Elab.async false
set_option linter.all false
set_option maxRecDepth 100000
set_option maxHeartbeats 4000000
namespace Kx
open PySem PySem.Spec PyProof.Rows L2
local macro_rules | `(tactic| walk_at "wp") => `(tactic| simp only [tSeq, tAsg, tC, tVar, tOp, tUn, rI, rI0, rU, tCB, tCons, tNil, tRet, tRetN, tDrop, tLst, tTup, tIf_eq, tIfS_eq, ifk_t, ifk_f, iek_t, iek_f, tTest, tB, tAnd, tOr, tNot, tAndV, tOrV, tNotV, tNext, tSl, rSlL, tPart, tNoPart, gName, gTup, gCons, gNil, gSub, rSetL, tCall, iList, iTup, iRng1, iRng2, rIxL, rIxT, rEq, rNe, scal_ii, scal_bb, scal_ss, scal_nx, scal_xn, RZ.iZipA, rIsiF, rIsiFT, vty_non, vty_bl, vty_int, vty_str, isa_list_list, isa_list_tuple, isa_list_bool, isa_list_int, isa_list_str, isa_tuple_list, isa_tuple_tuple, isa_tuple_bool, isa_tuple_int, isa_tuple_str, isa_dict_list, isa_dict_tuple, isa_dict_bool, isa_dict_int, isa_dict_str, isa_bool_list, isa_bool_tuple, isa_bool_bool, isa_bool_int, isa_bool_str, isa_int_list, isa_int_tuple, isa_int_bool, isa_int_int, isa_int_str, isa_str_list, isa_str_tuple, isa_str_bool, isa_str_int, isa_str_str, isa_non_list, isa_non_tuple, isa_non_bool, isa_non_int, isa_non_str, kc_bool, kc_int, kc_str, kc_list, kc_tuple, upd_same, HO.tup.injEq, HO.lst.injEq, V.ty.injEq, Bool.or_true, Bool.true_or, Bool.or_false, Bool.false_or, sz_0, sz_1, sz_2, sz_3, sz_4, sz_5, sz_6, sz_7, sz_8, sz_9, sz_10, sz_11, sz_12, sz_13, decide_true, decide_false, C8.tCut, tPar, tCallN,  tDisp, tPairs, rSlS, rLenS, rLenV, rListOf, rTupOf, tM0, tM1, iStr, wipe, tYes, tFor_eq, tLc_eq, L2.start, cxOf, Cx.nox, Cx.wish, List.map_cons, List.map_nil, List.length_cons, List.length_nil, List.replicate, List.cons_append, List.nil_append, List.getElem?_cons_zero, List.getElem?_cons_succ, List.set_cons_zero, List.set_cons_succ, Option.some.injEq, and_assoc, exists_and_left, exists_and_right, exists_eq_left', exists_eq_left, exists_eq, exists_eq', true_and, and_true, Nat.reduceSub, Nat.reduceAdd, V.int.injEq, V.ref.injEq, V.bl.injEq, V.str.injEq, List.cons.injEq, decide_eq_true_eq, reduceCtorEq, false_or, or_false, and_false, false_and, exists_false, exists_const, if_true, if_false, Bool.true_eq_false, Bool.false_eq_true, ite_true, ite_false, Bool.not_true, Bool.not_false, decide_eq_false_iff_not, ne_eq])

/-! ### rows -/
abbrev Row := List (Option Int)
def valV : Option Int → V
  | none => .non
  | some i => .int i
def rowV (r : Row) : List V := r.map valV
def valD : Option Int → PyData
  | none => .none
  | some i => .int i
def rowD (r : Row) : PyData := .tuple (r.map valD)
def RowOk (k : Int) (r : Row) : Prop := ∀ i, some i ∈ r → 0 ≤ i ∧ i < k
theorem is_val {H : Hp} {n : Nat} {o : Option Int} : Is H n (valD o) (valV o) := by
  cases o <;> (unfold valD valV Is; rfl)
theorem of_is_val {H : Hp} {n : Nat} {o : Option Int} {v : V} (h : Is H n (valD o) v) : v = valV o := by
  cases o <;> (unfold valD Is at h; exact h)
theorem paired_row {H : Hp} {n : Nat} : ∀ (r : Row), Paired (Is H n) (r.map valD) (rowV r)
  | [] => .nil
  | _ :: r => .cons is_val (paired_row r)
theorem of_paired_row {H : Hp} {n : Nat} : ∀ {r : Row} {xs : List V}, Paired (Is H n) (r.map valD) xs → xs = rowV r
  | [], _, h => by cases h; rfl
  | o :: r, _, h => by
    cases h with
    | cons a b =>
      rw [of_is_val a, of_paired_row b]
      rfl
theorem is_row {H : Hp} {n : Nat} {r : Row} {a : Addr} (h : H a = some (.tup (rowV r))) (hl : r.length ≤ 1000) : Is H (n + 1) (rowD r) (.ref a) := by
  unfold rowD Is
  exact ⟨by rw [List.length_map]; omega, a, _, rfl, h, paired_row r⟩
theorem of_is_row {H : Hp} {n : Nat} {r : Row} {v : V} (h : Is H (n + 1) (rowD r) v) : ∃ a, v = .ref a ∧ H a = some (.tup (rowV r)) := by
  unfold rowD Is at h
  obtain ⟨_, a, xs, e, h1, h2⟩ := h
  rw [of_paired_row h2] at h1
  exact ⟨a, e, h1⟩
section
variable {P : Program} {w : World} {K : PySem.W.Frag} {mg : Str → Option Value} {base : Heap}
def valsOf (k : Int) : List V := [V.non, .int 0, .int 1, .int 2].take (k + 1).toNat
def sp_values : Sp := fun vs H Q _ => ∃ k : Int, vs = [.int k] ∧ (k = 2 ∨ k = 3) ∧ ∀ p H', H p = none → Same H H' → H' p = some (.lst (valsOf k)) → Q (.ref p) H'
theorem cut_take {xs : List V} {k : Int} (h : 0 ≤ k) : cutV xs none (some k) = xs.take k.toNat := by
  unfold cutV
  rw [HT.sIx_none, List.drop_zero, Nat.sub_zero]
  obtain ⟨n, rfl⟩ : ∃ n : Nat, k = (n : Int) := ⟨k.toNat, by omega⟩
  rw [HT.sIx_nat, Int.toNat_natCast]
  exact (List.take_eq_take_min).symm
theorem ok_values (T : Txt K mg) : FnOk P w K mg base CX0 1 T.l_values.f T.l_values.d ["_law_base"] sp_values := by
  refine T.l_values.F.ok sc_l_values (fun vs H Q E h => ?_) (fun cdv A outer s H vs Q E hr h => ?_)
  · obtain ⟨k, rfl, _⟩ := h
    rfl
  obtain ⟨k, rfl, hk, q⟩ := h
  refine ⟨_, (pss_one (ps_ret (pe_slice sl_list (pe_lst (pa_cons pe_non (pa_cons pe_int (pa_cons pe_int (pa_cons pe_int pa_nil))))) po_none (po_some (pe_op op_add (pv 0) pe_int))))), ?_⟩
  walk_at "wp"
  intro p hp
  refine ⟨_, .inl (.inl upd_same), fun t ht => ?_⟩
  refine q _ _ ((same_upd hp).free ht) ((same_upd hp).trans (same_upd ht)) ?_
  rw [upd_same, cut_take (by omega)]
  rfl
def sp_row (K : PySem.W.Frag) : Sp := fun vs H Q _ => ∃ (B : BagId) (n k : Int), vs = [.ref B.b, .int n, .int k] ∧ Bag B H ∧ 0 ≤ n ∧ n ≤ 100 ∧ (k = 2 ∨ k = 3) ∧
  ∀ (t : Addr) (r : Row) H', H t = none → Ext B H H' → cut B.b H' t = some (.tup (rowV r)) → (r.length : Int) = n → RowOk k r → Q (.ref t) H'
theorem mem_vals {k : Int} (hk : k = 2 ∨ k = 3) {v : V} (h : v ∈ valsOf k) : ∃ o : Option Int, v = valV o ∧ ∀ i, some i = o → 0 ≤ i ∧ i < k := by
  rcases hk with rfl | rfl
  · have h : v ∈ [V.non, .int 0, .int 1] := h
    simp only [List.mem_cons, List.not_mem_nil, or_false] at h
    rcases h with rfl | rfl | rfl
    · exact ⟨none, rfl, fun i hi => by cases hi⟩
    · exact ⟨some 0, rfl, fun i hi => by cases hi; decide⟩
    · exact ⟨some 1, rfl, fun i hi => by cases hi; decide⟩
  · have h : v ∈ [V.non, .int 0, .int 1, .int 2] := h
    simp only [List.mem_cons, List.not_mem_nil, or_false] at h
    rcases h with rfl | rfl | rfl | rfl
    · exact ⟨none, rfl, fun i hi => by cases hi⟩
    · exact ⟨some 0, rfl, fun i hi => by cases hi; decide⟩
    · exact ⟨some 1, rfl, fun i hi => by cases hi; decide⟩
    · exact ⟨some 2, rfl, fun i hi => by cases hi; decide⟩
theorem vals_pos {k : Int} (hk : k = 2 ∨ k = 3) : 0 < (valsOf k).length ∧ (valsOf k).length < 1000000 := by
  rcases hk with rfl | rfl <;> exact ⟨by decide, by decide⟩
theorem row_of : ∀ {k : Int} {ys : List V}, (∀ (i : Nat) (y : V), ys[i]? = some y → ∃ o : Option Int, y = valV o ∧ ∀ i, some i = o → 0 ≤ i ∧ i < k) → ∃ r : Row, ys = rowV r ∧ RowOk k r
  | _, [], _ => ⟨[], rfl, fun i hi => by simp at hi⟩
  | k, y :: ys, h => by
    obtain ⟨o, rfl, ho⟩ := h 0 y rfl
    obtain ⟨r, rfl, hr⟩ := row_of (ys := ys) fun i y e => h (i + 1) y e
    refine ⟨o :: r, rfl, fun i hi => ?_⟩
    rcases List.mem_cons.mp hi with e | e
    · exact ho i e
    · exact hr i e
theorem ok_row (T : Txt K mg) : FnOk P w K mg base CX0 3 T.l_row.f T.l_row.d ["_law_bag_here", "_law_n", "_law_base"] (sp_row K) := by
  have G_l_of : FnOk P w K mg base CX0 2 T.l_of.f T.l_of.d ["_law_bag_here", "_law_things"] (sp_of K) := ok_of T
  have G_l_values : FnOk P w K mg base CX0 1 T.l_values.f T.l_values.d ["_law_base"] sp_values := ok_values T
  refine T.l_row.F.ok sc_l_row (fun vs H Q E h => ?_) (fun cdv A outer s H vs Q E hr h => ?_)
  · obtain ⟨B, n, k, rfl, _⟩ := h
    rfl
  obtain ⟨B, n, k, rfl, hB, hn0, hn1, hk, q⟩ := h
  refine ⟨_, (pss_one (ps_ret (pe_callTy call_tuple_of (by rfl) T.z_tuple (by decide +kernel) (pa_cons (pe_lc (own := [("_law_k", 3)]) (g := gName 3) rfl sc_l_row.nd (pi_range1 (by rfl) T.z_range (pa_cons (pv 1) pa_nil)) (blkOk_by (own := [("_law_k", 3)]) (N := ["_law_bag_here", "_law_n", "_law_base", "_law_k"]) (sc := defScope s_l_row) (by decide +kernel)) (fun _ _ _ _ _ => (pg_name (i := 3) sc_l_row.nd rfl (.inl rfl))) (fun _ _ _ _ _ => pts_nil) (fun _ _ _ _ _ => (pe_call G_l_of (hr.mono (by omega)) (by rfl) T.l_of.g T.l_of.kp T.l_of.b .nil pass0 (pa_cons (pv 0) (pa_cons (pe_call G_l_values (hr.mono (by omega)) (by rfl) T.l_values.g T.l_values.kp T.l_values.b .nil pass0 (pa_cons (pv 2) pa_nil)) pa_nil))))) pa_nil)))), ?_⟩
  walk_at "wp"
  refine ⟨by omega, by omega, ?_⟩
  refine lcB (B := B) (walk_range (n := n.toNat)) (fun i y => ∃ o : Option Int, y = valV o ∧ ∀ i, some i = o → 0 ≤ i ∧ i < k) hB (fun _ _ => trivial) (by omega) (fun i x H1 H2 R hi e1 hy c => ?_) (fun D H1 ys hD e1 hz hlen hall => ?_)
  · obtain ⟨rfl, rfl⟩ := hy
    walk_at "wp"
    refine ⟨k, rfl, hk, fun p H3 hp s3 hv => ?_⟩
    have e3 : Ext B H2 H3 := .of_same e1.bag s3
    have v3 : cut B.b H3 p = some (.lst (valsOf k)) := cut_of hv (e1.bag.fresh hp)
    refine ⟨B, p, valsOf k, rfl, e3.bag, .inl (.inl v3), (vals_pos hk).1, (vals_pos hk).2, fun v H4 hm e4 => c _ _ (e3.trans e4) (mem_vals hk hm)⟩
  · obtain ⟨r, rfl, hro⟩ := row_of hall
    have hz' := (cut_some hz).1
    refine ⟨_, rfl, rowV r, .inl ⟨.inl (.inl hz'), fun l hl => q l r _ (e1.free hl) (e1.trans (.new e1.bag hl)) (cut_new e1.bag hl) ?_ hro⟩⟩
    have : (rowV r).length = r.length := List.length_map _
    omega
end
end Kx

set_option Elab.async false
set_option linter.all false
set_option maxRecDepth 100000
set_option maxHeartbeats 4000000
namespace Kx
open PySem PySem.Spec PyProof.Rows L2
/-! ### comprehensions of two -/
def Lc2J (g : TG) (wi1 : TI) (g1 : TG) (te : TE) (vs vs1 : List Nat) (σ : L2.St) (Q : VK) (J : It) (H1 : Hp) : Prop := tLc2 (fun _ H R => R J H) g tYes wi1 g1 tYes te vs vs1 σ H1 Q
theorem tLc2_eq {wi : TI} {g : TG} {wi1 : TI} {g1 : TG} {te : TE} {vs vs1 : List Nat} {σ : L2.St} {H : Hp} {Q : VK} : tLc2 wi g tYes wi1 g1 tYes te vs vs1 σ H Q = wi σ H (Lc2J g wi1 g1 te vs vs1 σ Q) := rfl
/-- .. each of whose items is told by the heap, whatever lists grow -/
theorem lc2S {α : Type} {J : It} {n : Nat} {G : Hp → Prop} {Y : Nat → Hp → V → Hp → Prop} (wk : Walk J n G Y) {gi g1i : Nat} {wi1 : TI} {te : TE} {vs vs1 : List Nat} {σ : L2.St} {H1 : Hp} {Q : VK} (R : Hp → α → V → Prop) (p1 : ∀ H H' b y, Same H H' → R H b y → R H' b y) (p2 : ∀ H D ys zs b y, H D = some (.lst ys) → R H b y → R (upd H D (.lst zs)) b y)
    (T : Nat → List α) (h0 : T 0 = []) (hn : ∀ i, i ≤ n → (T i).length ≤ 100000) (hG : ∀ H, Same H1 H → G H)
    (hs : ∀ i x H H', i < n → Same H1 H → Y i H x H' → Same H H' ∧ wipe ((wipe σ vs).set gi (some x)) vs = wipe σ vs ∧ ∀ K2 : It → Hp → Prop, (∀ (J1 : It) (H4 : Hp) (m : Nat) (G1 : Hp → Prop) (Y1 : Nat → Hp → V → Hp → Prop) (a : Nat → α), Same H H4 → Walk J1 m G1 Y1 → T (i + 1) = T i ++ (List.range m).map a → (∀ H, Same H1 H → G1 H) →
      (∀ j x1 H5 H6 (Rr : VK), j < m → Same H1 H5 → Y1 j H5 x1 H6 → (∀ y H7, Same H5 H7 → R H7 (a j) y → Rr y H7) → wipe ((wipe ((wipe σ vs).set gi (some x)) vs1).set g1i (some x1)) vs1 = wipe ((wipe σ vs).set gi (some x)) vs1 ∧ te ((wipe ((wipe σ vs).set gi (some x)) vs1).set g1i (some x1)) H6 Rr) → K2 J1 H4) → wi1 ((wipe σ vs).set gi (some x)) H' K2)
    (hd : ∀ D H ys, H1 D = none → Same H1 H → H D = some (.lst ys) → Paired (R H) (T n) ys → Q (.ref D) H) : Lc2J (gName gi) wi1 (gName g1i) te vs vs1 σ Q J H1 := by
  intro D hD
  have grow : ∀ {H : Hp} {zs : List V}, Same H1 H → Same H1 (upd H D (.lst zs)) := fun {H zs} s a o e => by
    rw [upd_ne (ne_of_none e hD)]
    exact s _ _ e
  refine ⟨fun i m H => m = n - i ∧ i ≤ n ∧ Same H1 H ∧ ∃ ys, H D = some (.lst ys) ∧ Paired (R H) (T i) ys, ⟨n, by simp, Nat.zero_le _, same_upd hD, [], upd_same, by rw [h0]; exact .nil⟩, ?_⟩
  rintro i m H ⟨rfl, hi, s1, ys, hy, hp⟩
  by_cases hin : i = n
  · subst hin
    exact .inl ⟨wk.stops H (hG H s1), hd D H ys hD s1 hy hp⟩
  · have hi' : i < n := by omega
    refine .inr ⟨wk.goes i H hi' (hG H s1), fun H' => i + 1 ≤ n ∧ Same H1 H' ∧ ∃ ys, H' D = some (.lst ys) ∧ Paired (R H') (T (i + 1)) ys, fun H' ⟨h1, h2, h3⟩ => ⟨n - (i + 1), by omega, rfl, h1, h2, h3⟩, fun x H' hx => ?_⟩
    obtain ⟨sY, hw, hg⟩ := hs i x H H' hi' s1 (wk.yields i H x H' hi' (hG H s1) hx)
    refine ⟨hw, ?_⟩
    unfold tYes
    dsimp only
    rw [if_pos rfl]
    refine hg _ fun J1 H4 m G1 Y1 a s4 w1 hT hG1 hin1 => ?_
    have hTl := hn (i + 1) (by omega)
    rw [hT, List.length_append, List.length_map, List.length_range] at hTl
    refine ⟨fun j k H => k = m - j ∧ j ≤ m ∧ Same H1 H ∧ ∃ ys, H D = some (.lst ys) ∧ Paired (R H) (T i ++ (List.range j).map a) ys, ⟨m, by simp, Nat.zero_le _, s1.trans s4, ys, s4 _ _ hy, by rw [List.range_zero, List.map_nil, List.append_nil]; exact paired_mono (fun _ _ => p1 _ _ _ _ s4) hp⟩, ?_⟩
    rintro j k H5 ⟨rfl, hj, s5, zs, hz, hpz⟩
    by_cases hjm : j = m
    · subst hjm
      exact .inl ⟨w1.stops H5 (hG1 H5 s5), by omega, s5, zs, hz, by rw [hT]; exact hpz⟩
    · have hj' : j < m := by omega
      refine .inr ⟨w1.goes j H5 hj' (hG1 H5 s5), fun H' => j + 1 ≤ m ∧ Same H1 H' ∧ ∃ ys, H' D = some (.lst ys) ∧ Paired (R H') (T i ++ (List.range (j + 1)).map a) ys, fun H' ⟨h1, h2, h3⟩ => ⟨m - (j + 1), by omega, rfl, h1, h2, h3⟩, fun x1 H6 hx1 => ?_⟩
      have hzl := paired_len hpz
      rw [List.length_append, List.length_map, List.length_range] at hzl
      obtain ⟨hw1, ht⟩ := hin1 j x1 H5 H6 (fun y H7 => ∃ acc, H7 D = some (.lst acc) ∧ acc.length < sizeLine ∧ (j + 1 ≤ m ∧ Same H1 (upd H7 D (.lst (acc ++ [y]))) ∧ ∃ ys, (upd H7 D (.lst (acc ++ [y]))) D = some (.lst ys) ∧ Paired (R (upd H7 D (.lst (acc ++ [y])))) (T i ++ (List.range (j + 1)).map a) ys)) hj' s5 (w1.yields j H5 x1 H6 hj' (hG1 H5 s5) hx1) fun y H7 s7 hr => by
        refine ⟨zs, s7 _ _ hz, Nat.lt_of_lt_of_le (by omega : zs.length < 100001) (by decide), by omega, grow (s5.trans s7), _, upd_same, ?_⟩
        rw [List.range_succ, List.map_append, ← List.append_assoc]
        exact Paired.snoc (paired_mono (fun b y h => p2 _ _ _ _ _ _ (s7 _ _ hz) (p1 _ _ _ _ s7 h)) hpz) (p2 _ _ _ _ _ _ (s7 _ _ hz) hr)
      refine ⟨hw1, ?_⟩
      dsimp only
      rw [if_pos rfl]
      exact ht
end Kx

set_option Elab.async false
set_option linter.all false
set_option maxRecDepth 100000
set_option maxHeartbeats 4000000
namespace Kx
open PySem PySem.Spec PyProof.Rows L2
local macro_rules | `(tactic| walk_at "wp") => `(tactic| simp only [tSeq, tAsg, tC, tVar, tOp, tUn, rI, rI0, rU, tCB, tCons, tNil, tRet, tRetN, tDrop, tLst, tTup, tIf_eq, tIfS_eq, ifk_t, ifk_f, iek_t, iek_f, tTest, tB, tAnd, tOr, tNot, tAndV, tOrV, tNotV, tNext, tSl, rSlL, tPart, tNoPart, gName, gTup, gCons, gNil, gSub, rSetL, tCall, iList, iTup, iRng1, iRng2, rIxL, rIxT, rEq, rNe, scal_ii, scal_bb, scal_ss, scal_nx, scal_xn, RZ.iZipA, rIsiF, rIsiFT, vty_non, vty_bl, vty_int, vty_str, isa_list_list, isa_list_tuple, isa_list_bool, isa_list_int, isa_list_str, isa_tuple_list, isa_tuple_tuple, isa_tuple_bool, isa_tuple_int, isa_tuple_str, isa_dict_list, isa_dict_tuple, isa_dict_bool, isa_dict_int, isa_dict_str, isa_bool_list, isa_bool_tuple, isa_bool_bool, isa_bool_int, isa_bool_str, isa_int_list, isa_int_tuple, isa_int_bool, isa_int_int, isa_int_str, isa_str_list, isa_str_tuple, isa_str_bool, isa_str_int, isa_str_str, isa_non_list, isa_non_tuple, isa_non_bool, isa_non_int, isa_non_str, kc_bool, kc_int, kc_str, kc_list, kc_tuple, upd_same, HO.tup.injEq, HO.lst.injEq, V.ty.injEq, Bool.or_true, Bool.true_or, Bool.or_false, Bool.false_or, sz_0, sz_1, sz_2, sz_3, sz_4, sz_5, sz_6, sz_7, sz_8, sz_9, sz_10, sz_11, sz_12, sz_13, decide_true, decide_false, C8.tCut, tBM, tBM0, rAppend, rTupU, rRepU, rExtend, rReverse, StX.tStar, tLstRg, tRg1, tRg2, tCKw, tLc2_eq, rCatU, rSlU, rRepT, rRep, rCat, tChain, exists_eq, tPar, tCallN,  tDisp, tPairs, rSlS, rLenS, rLenV, rListOf, rTupOf, tM0, tM1, iStr, wipe, tYes, tFor_eq, tLc_eq, L2.start, cxOf, Cx.nox, Cx.wish, List.map_cons, List.map_nil, List.length_cons, List.length_nil, List.replicate, List.cons_append, List.nil_append, List.getElem?_cons_zero, List.getElem?_cons_succ, List.set_cons_zero, List.set_cons_succ, Option.some.injEq, and_assoc, exists_and_left, exists_and_right, exists_eq_left', exists_eq_left, exists_eq, exists_eq', true_and, and_true, Nat.reduceSub, Nat.reduceAdd, V.int.injEq, V.ref.injEq, V.bl.injEq, V.str.injEq, List.cons.injEq, decide_eq_true_eq, reduceCtorEq, false_or, or_false, and_false, false_and, exists_false, exists_const, if_true, if_false, Bool.true_eq_false, Bool.false_eq_true, ite_true, ite_false, Bool.not_true, Bool.not_false, decide_eq_false_iff_not, ne_eq])

section
variable {P : Program} {w : World} {K : PySem.W.Frag} {mg : Str → Option Value} {base : Heap}
/-! ### rows, two by two -/
def belowV (a b : Option Int) : Bool := a.isNone || a == b
def fitV (a b : Option Int) : Bool := a.isNone || b.isNone || a == b
def belowR (r s : Row) : Bool := decide (r.length = s.length) && (List.zipWith belowV r s).all id
def fitR (r s : Row) : Bool := decide (r.length = s.length) && (List.zipWith fitV r s).all id
def sp_pred (f : Row → Row → Bool) : Sp := fun vs H Q _ => ∃ (a b : Addr) (r s : Row), vs = [.ref a, .ref b] ∧ H a = some (.tup (rowV r)) ∧ H b = some (.tup (rowV s)) ∧ r.length ≤ 1000 ∧ s.length ≤ 1000 ∧ ∀ H', Same H H' → Q (.bl (f r s)) H'
theorem val_at {r : Row} {i : Nat} {x : V} (h : (rowV r)[i]? = some x) : ∃ u, r[i]? = some u ∧ x = valV u := by
  unfold rowV at h
  rw [List.getElem?_map] at h
  cases e : r[i]? with
  | none => rw [e] at h; cases h
  | some u => rw [e] at h; cases h; exact ⟨u, rfl, rfl⟩
/-- [f(u, v) for u, v in zip(r, s)] -/
theorem zip_row {r s : Row} {a b : Addr} {H : Hp} {J : It} {i j : Nat} {te : TE} {vs : List Nat} {σ : L2.St} {Q : VK} (w : ∀ (xs ys : List V) (n : Nat), xs = rowV r → ys = rowV s → n = r.length → Walk J n (fun H => SqT K H a xs ∧ SqT K H b ys) (YPair (fun i => xs[i]?) (fun i => ys[i]?)))
    (ha : H a = some (.tup (rowV r))) (hb : H b = some (.tup (rowV s))) (hz : r.length ≤ 1000) (hl : r.length = s.length) (f : Option Int → Option Int → V)
    (he : ∀ u v H' (R : VK), R (f u v) H' → te (((wipe σ vs).set i (some (valV u))).set j (some (valV v))) H' R) (hw : ∀ x y, wipe (((wipe σ vs).set i x).set j y) vs = wipe σ vs)
    (hd : ∀ D H1, H D = none → Same H H1 → H1 D = some (.lst (List.zipWith f r s)) → Q (.ref D) H1) : LcJ (gTup K 2 (gCons (gName i) (gCons (gName j) gNil))) tYes te vs σ Q J H := by
  refine lcS (w _ _ _ rfl rfl rfl) (fun i y => ∃ u v, r[i]? = some u ∧ s[i]? = some v ∧ y = f u v) (fun H2 s2 => ⟨.inl (.inl (s2 _ _ ha)), .inl (.inl (s2 _ _ hb))⟩) (by omega) (fun i x H1 H2 R hi s1 hy c => ?_) (fun D H1 ys hD s1 hz hlen hall => ?_)
  · obtain ⟨Tt, x1, y1, rfl, nT, rfl, e1, e2⟩ := hy
    obtain ⟨u, e3, rfl⟩ := val_at e1
    obtain ⟨v, e4, rfl⟩ := val_at e2
    refine ⟨Tt, _, rfl, .inl (.inl upd_same), rfl, _, _, rfl, _, _, rfl, rfl, ?_⟩
    exact ⟨hw _ _, he u v _ _ (c _ _ (same_upd nT) ⟨u, v, e3, e4, rfl⟩)⟩
  · refine hd D H1 hD s1 ?_
    rw [hz]
    congr 2
    refine List.ext_getElem? fun i => ?_
    rw [List.getElem?_zipWith]
    by_cases hi : i < ys.length
    · obtain ⟨a, b, e1, e2, e3⟩ := hall i _ (List.getElem?_eq_getElem hi)
      rw [List.getElem?_eq_getElem hi, e1, e2, e3]
    · rw [List.getElem?_eq_none (by omega), List.getElem?_eq_none (by omega : r.length ≤ i)]
theorem zip_bools (f : Option Int → Option Int → Bool) : ∀ (r s : Row), List.zipWith (fun u v => V.bl (f u v)) r s = (List.zipWith f r s).map V.bl
  | [], _ => by simp
  | _ :: _, [] => by simp
  | a :: r, b :: s => congrArg (V.bl (f a b) :: ·) (zip_bools f r s)
theorem eqO {i j : Int} : ((some i : Option Int) == some j) = decide (i = j) := by
  rw [Bool.eq_iff_iff]
  simp
theorem ok_is_below (T : Txt K mg) : FnOk P w K mg base CX0 1 T.is_below.f T.is_below.d ["one", "other"] (sp_pred belowR) := by
  refine T.is_below.F.ok sc_is_below (fun vs H Q E h => ?_) (fun cdv A outer s H vs Q E hr h => ?_)
  · obtain ⟨a, b, r, s, rfl, _⟩ := h
    rfl
  obtain ⟨a, b, r, s', rfl, ha, hb, hr1, hs1, q⟩ := h
  refine ⟨_, (pss_cons (ps_if (pt_cmpR op_ne (pe_callB call_len_seq (by rfl) T.z_len PySem.boot_len (pa_cons (pv 0) pa_nil)) (pe_callB call_len_seq (by rfl) T.z_len PySem.boot_len (pa_cons (pv 1) pa_nil)) (nomark _))
      (pss_one (ps_ret pe_bl))
      pss_nil)
      (pss_one (ps_ret (pe_callB (cr_all rfl) (by rfl) T.z_all (by decide +kernel) (pa_cons (pe_lc (own := [("value", 2), ("above", 3)]) (g := (gTup K 2 (gCons (gName 2) (gCons (gName 3) gNil)))) rfl sc_is_below.nd (RZ.pi_zipA (by rfl) T.z_zip (pa_cons (pv 0) (pa_cons (pv 1) pa_nil))) (blkOk_by (own := [("value", 2), ("above", 3)]) (N := ["one", "other", "value", "above"]) (sc := defScope s_is_below) (by decide +kernel)) (fun _ _ _ _ _ => (pg_tup rfl (pgs_cons (pg_name (i := 2) sc_is_below.nd rfl (.inl rfl)) (pgs_cons (pg_name (i := 3) sc_is_below.nd rfl (.inl rfl)) pgs_nil)))) (fun _ _ _ _ _ => pts_nil) (fun _ _ _ _ _ => (pe_or (pe_cmpR op_isN (pv 2) pe_non (nomark _)) (pe_one (pe_cmpR op_eq (pv 2) (pv 3) (nomark _)))))) pa_nil))))), ?_⟩
  walk_at "wp"
  have el : (rowV r).length = r.length := List.length_map _
  have es : (rowV s').length = s'.length := List.length_map _
  refine ⟨rowV r, .inr (.inl (.inl ha)), rowV s', .inr (.inl (.inl hb)), ?_⟩
  rw [el, es]
  by_cases hl : r.length = s'.length
  · rw [decide_eq_true (by omega : (r.length : Int) = (s'.length : Int))]
    walk_at "wp"
    refine ⟨rowV r, rowV s', .inr ⟨.inl (.inl ha), .inl (.inl hb), ?_⟩⟩
    refine zip_row (fun xs ys n e1 e2 e3 => by subst e1 e2 e3; exact walk_zipT (by omega)) ha hb hr1 hl (fun u v => .bl (belowV u v)) (fun u v H' R c => ?_) (fun _ _ => rfl) (fun D H1 hD s1 hz => ?_)
    · cases u with
      | none =>
        unfold valV
        walk_at "wp"
        exact c
      | some i =>
        cases v with
        | none =>
          unfold valV
          walk_at "wp"
          exact c
        | some j =>
          unfold valV
          walk_at "wp"
          have e : belowV (some i) (some j) = decide (i = j) := by unfold belowV; rw [eqO]; rfl
          rw [e] at c
          exact c
    · rw [zip_bools] at hz
      refine ⟨_, _, rfl, .inl (.inl hz), ?_⟩
      have e : belowR r s' = (List.zipWith belowV r s').all id := by
        unfold belowR
        rw [decide_eq_true hl]
        rfl
      rw [← e]
      exact q _ s1
  · rw [decide_eq_false (by omega : ¬ (r.length : Int) = (s'.length : Int))]
    walk_at "wp"
    have e : belowR r s' = false := by
      unfold belowR
      rw [decide_eq_false hl]
      rfl
    rw [← e]
    exact q _ (Same.refl _)
end
end Kx

set_option Elab.async false
set_option linter.all false
set_option maxRecDepth 100000
set_option maxHeartbeats 4000000
namespace Kx
open PySem PySem.Spec PyProof.Rows L2
local macro_rules | `(tactic| walk_at "wp") => `(tactic| simp only [tSeq, tAsg, tC, tVar, tOp, tUn, rI, rI0, rU, tCB, tCons, tNil, tRet, tRetN, tDrop, tLst, tTup, tIf_eq, tIfS_eq, ifk_t, ifk_f, iek_t, iek_f, tTest, tB, tAnd, tOr, tNot, tAndV, tOrV, tNotV, tNext, tSl, rSlL, tPart, tNoPart, gName, gTup, gCons, gNil, gSub, rSetL, tCall, iList, iTup, iRng1, iRng2, rIxL, rIxT, rEq, rNe, scal_ii, scal_bb, scal_ss, scal_nx, scal_xn, RZ.iZipA, rIsiF, rIsiFT, vty_non, vty_bl, vty_int, vty_str, isa_list_list, isa_list_tuple, isa_list_bool, isa_list_int, isa_list_str, isa_tuple_list, isa_tuple_tuple, isa_tuple_bool, isa_tuple_int, isa_tuple_str, isa_dict_list, isa_dict_tuple, isa_dict_bool, isa_dict_int, isa_dict_str, isa_bool_list, isa_bool_tuple, isa_bool_bool, isa_bool_int, isa_bool_str, isa_int_list, isa_int_tuple, isa_int_bool, isa_int_int, isa_int_str, isa_str_list, isa_str_tuple, isa_str_bool, isa_str_int, isa_str_str, isa_non_list, isa_non_tuple, isa_non_bool, isa_non_int, isa_non_str, kc_bool, kc_int, kc_str, kc_list, kc_tuple, upd_same, HO.tup.injEq, HO.lst.injEq, V.ty.injEq, Bool.or_true, Bool.true_or, Bool.or_false, Bool.false_or, sz_0, sz_1, sz_2, sz_3, sz_4, sz_5, sz_6, sz_7, sz_8, sz_9, sz_10, sz_11, sz_12, sz_13, decide_true, decide_false, C8.tCut, tBM, tBM0, rAppend, rTupU, rRepU, rExtend, rReverse, StX.tStar, tLstRg, tRg1, tRg2, tCKw, tLc2_eq, rCatU, rSlU, rRepT, rRep, rCat, tChain, exists_eq, tPar, tCallN,  tDisp, tPairs, rSlS, rLenS, rLenV, rListOf, rTupOf, tM0, tM1, iStr, wipe, tYes, tFor_eq, tLc_eq, L2.start, cxOf, Cx.nox, Cx.wish, List.map_cons, List.map_nil, List.length_cons, List.length_nil, List.replicate, List.cons_append, List.nil_append, List.getElem?_cons_zero, List.getElem?_cons_succ, List.set_cons_zero, List.set_cons_succ, Option.some.injEq, and_assoc, exists_and_left, exists_and_right, exists_eq_left', exists_eq_left, exists_eq, exists_eq', true_and, and_true, Nat.reduceSub, Nat.reduceAdd, V.int.injEq, V.ref.injEq, V.bl.injEq, V.str.injEq, List.cons.injEq, decide_eq_true_eq, reduceCtorEq, false_or, or_false, and_false, false_and, exists_false, exists_const, if_true, if_false, Bool.true_eq_false, Bool.false_eq_true, ite_true, ite_false, Bool.not_true, Bool.not_false, decide_eq_false_iff_not, ne_eq])

section
variable {P : Program} {w : World} {K : PySem.W.Frag} {mg : Str → Option Value} {base : Heap}
theorem ok_rows_fit (T : Txt K mg) : FnOk P w K mg base CX0 1 T.rows_fit.f T.rows_fit.d ["one", "other"] (sp_pred fitR) := by
  refine T.rows_fit.F.ok sc_rows_fit (fun vs H Q E h => ?_) (fun cdv A outer s H vs Q E hr h => ?_)
  · obtain ⟨a, b, r, s, rfl, _⟩ := h
    rfl
  obtain ⟨a, b, r, s', rfl, ha, hb, hr1, hs1, q⟩ := h
  refine ⟨_, (pss_cons (ps_if (pt_cmpR op_ne (pe_callB call_len_seq (by rfl) T.z_len PySem.boot_len (pa_cons (pv 0) pa_nil)) (pe_callB call_len_seq (by rfl) T.z_len PySem.boot_len (pa_cons (pv 1) pa_nil)) (nomark _))
      (pss_one (ps_ret pe_bl))
      pss_nil)
      (pss_one (ps_ret (pe_callB (cr_all rfl) (by rfl) T.z_all (by decide +kernel) (pa_cons (pe_lc (own := [("value", 2), ("against", 3)]) (g := (gTup K 2 (gCons (gName 2) (gCons (gName 3) gNil)))) rfl sc_rows_fit.nd (RZ.pi_zipA (by rfl) T.z_zip (pa_cons (pv 0) (pa_cons (pv 1) pa_nil))) (blkOk_by (own := [("value", 2), ("against", 3)]) (N := ["one", "other", "value", "against"]) (sc := defScope s_rows_fit) (by decide +kernel)) (fun _ _ _ _ _ => (pg_tup rfl (pgs_cons (pg_name (i := 2) sc_rows_fit.nd rfl (.inl rfl)) (pgs_cons (pg_name (i := 3) sc_rows_fit.nd rfl (.inl rfl)) pgs_nil)))) (fun _ _ _ _ _ => pts_nil) (fun _ _ _ _ _ => (pe_or (pe_cmpR op_isN (pv 2) pe_non (nomark _)) (pe_or (pe_cmpR op_isN (pv 3) pe_non (nomark _)) (pe_one (pe_cmpR op_eq (pv 2) (pv 3) (nomark _))))))) pa_nil))))), ?_⟩
  walk_at "wp"
  have el : (rowV r).length = r.length := List.length_map _
  have es : (rowV s').length = s'.length := List.length_map _
  refine ⟨rowV r, .inr (.inl (.inl ha)), rowV s', .inr (.inl (.inl hb)), ?_⟩
  rw [el, es]
  by_cases hl : r.length = s'.length
  · rw [decide_eq_true (by omega : (r.length : Int) = (s'.length : Int))]
    walk_at "wp"
    refine ⟨rowV r, rowV s', .inr ⟨.inl (.inl ha), .inl (.inl hb), ?_⟩⟩
    refine zip_row (fun xs ys n e1 e2 e3 => by subst e1 e2 e3; exact walk_zipT (by omega)) ha hb hr1 hl (fun u v => .bl (fitV u v)) (fun u v H' R c => ?_) (fun _ _ => rfl) (fun D H1 hD s1 hz => ?_)
    · cases u with
      | none =>
        cases v with
        | none =>
          try unfold valV at c
          unfold valV
          walk_at "wp"
          exact c
        | some j =>
          try unfold valV at c
          unfold valV
          walk_at "wp"
          exact c
      | some i =>
        cases v with
        | none =>
          try unfold valV at c
          unfold valV
          walk_at "wp"
          exact c
        | some j =>
          try unfold valV at c
          unfold valV
          walk_at "wp"
          have e : fitV (some i) (some j) = decide (i = j) := by unfold fitV; rw [eqO]; rfl
          rw [e] at c
          exact c
    · rw [zip_bools] at hz
      refine ⟨_, _, rfl, .inl (.inl hz), ?_⟩
      have e : fitR r s' = (List.zipWith fitV r s').all id := by
        unfold fitR
        rw [decide_eq_true hl]
        rfl
      rw [← e]
      exact q _ s1
  · rw [decide_eq_false (by omega : ¬ (r.length : Int) = (s'.length : Int))]
    walk_at "wp"
    have e : fitR r s' = false := by
      unfold fitR
      rw [decide_eq_false hl]
      rfl
    rw [← e]
    exact q _ (Same.refl _)
theorem ok_l_below (T : Txt K mg) : FnOk P w K mg base CX0 1 T.l_below.f T.l_below.d ["_law_one", "_law_two"] (sp_pred belowR) := by
  refine T.l_below.F.ok sc_l_below (fun vs H Q E h => ?_) (fun cdv A outer s H vs Q E hr h => ?_)
  · obtain ⟨a, b, r, s, rfl, _⟩ := h
    rfl
  obtain ⟨a, b, r, s', rfl, ha, hb, hr1, hs1, q⟩ := h
  refine ⟨_, (pss_one (ps_ret (pe_and (pe_cmpR op_eq (pe_callB call_len_seq (by rfl) T.z_len PySem.boot_len (pa_cons (pv 0) pa_nil)) (pe_callB call_len_seq (by rfl) T.z_len PySem.boot_len (pa_cons (pv 1) pa_nil)) (nomark _)) (pe_one (pe_callB (cr_all rfl) (by rfl) T.z_all (by decide +kernel) (pa_cons (pe_lc (own := [("_law_a", 2), ("_law_b", 3)]) (g := (gTup K 2 (gCons (gName 2) (gCons (gName 3) gNil)))) rfl sc_l_below.nd (RZ.pi_zipA (by rfl) T.z_zip (pa_cons (pv 0) (pa_cons (pv 1) pa_nil))) (blkOk_by (own := [("_law_a", 2), ("_law_b", 3)]) (N := ["_law_one", "_law_two", "_law_a", "_law_b"]) (sc := defScope s_l_below) (by decide +kernel)) (fun _ _ _ _ _ => (pg_tup rfl (pgs_cons (pg_name (i := 2) sc_l_below.nd rfl (.inl rfl)) (pgs_cons (pg_name (i := 3) sc_l_below.nd rfl (.inl rfl)) pgs_nil)))) (fun _ _ _ _ _ => pts_nil) (fun _ _ _ _ _ => (pe_or (pe_cmpR op_isN (pv 2) pe_non (nomark _)) (pe_one (pe_cmpR op_eq (pv 2) (pv 3) (nomark _)))))) pa_nil)))))), ?_⟩
  walk_at "wp"
  have el : (rowV r).length = r.length := List.length_map _
  have es : (rowV s').length = s'.length := List.length_map _
  refine ⟨rowV r, .inr (.inl (.inl ha)), rowV s', .inr (.inl (.inl hb)), ?_⟩
  rw [el, es]
  by_cases hl : r.length = s'.length
  · rw [if_pos (by omega : (r.length : Int) = (s'.length : Int))]
    refine ⟨rowV r, rowV s', .inr ⟨.inl (.inl ha), .inl (.inl hb), ?_⟩⟩
    refine zip_row (fun xs ys n e1 e2 e3 => by subst e1 e2 e3; exact walk_zipT (by omega)) ha hb hr1 hl (fun u v => .bl (belowV u v)) (fun u v H' R c => ?_) (fun _ _ => rfl) (fun D H1 hD s1 hz => ?_)
    · cases u with
      | none =>
        cases v with
        | none =>
          try unfold valV at c
          unfold valV
          walk_at "wp"
          exact c
        | some j =>
          try unfold valV at c
          unfold valV
          walk_at "wp"
          exact c
      | some i =>
        cases v with
        | none =>
          try unfold valV at c
          unfold valV
          walk_at "wp"
          exact c
        | some j =>
          try unfold valV at c
          unfold valV
          walk_at "wp"
          have e : belowV (some i) (some j) = decide (i = j) := by unfold belowV; rw [eqO]; rfl
          rw [e] at c
          exact c
    · rw [zip_bools] at hz
      refine ⟨_, _, rfl, .inl (.inl hz), ?_⟩
      have e : belowR r s' = (List.zipWith belowV r s').all id := by
        unfold belowR
        rw [decide_eq_true hl]
        rfl
      rw [← e]
      exact q _ s1
  · rw [if_neg (by omega : ¬ (r.length : Int) = (s'.length : Int))]
    have e : belowR r s' = false := by
      unfold belowR
      rw [decide_eq_false hl]
      rfl
    rw [← e]
    exact q _ (Same.refl _)
def sp_fit : Sp := fun vs H Q _ => ∃ (a b : Addr) (r s : Row), vs = [.ref a, .ref b] ∧ H a = some (.tup (rowV r)) ∧ H b = some (.tup (rowV s)) ∧ r.length ≤ 1000 ∧ r.length = s.length ∧ ∀ H', Same H H' → Q (.bl (fitR r s)) H'
theorem ok_l_fit (T : Txt K mg) : FnOk P w K mg base CX0 1 T.l_fit.f T.l_fit.d ["_law_one", "_law_two"] sp_fit := by
  refine T.l_fit.F.ok sc_l_fit (fun vs H Q E h => ?_) (fun cdv A outer s H vs Q E hr h => ?_)
  · obtain ⟨a, b, r, s, rfl, _⟩ := h
    rfl
  obtain ⟨a, b, r, s', rfl, ha, hb, hr1, hl, q⟩ := h
  refine ⟨_, (pss_one (ps_ret (pe_callB (cr_all rfl) (by rfl) T.z_all (by decide +kernel) (pa_cons (pe_lc (own := [("_law_a", 2), ("_law_b", 3)]) (g := (gTup K 2 (gCons (gName 2) (gCons (gName 3) gNil)))) rfl sc_l_fit.nd (RZ.pi_zipA (by rfl) T.z_zip (pa_cons (pv 0) (pa_cons (pv 1) pa_nil))) (blkOk_by (own := [("_law_a", 2), ("_law_b", 3)]) (N := ["_law_one", "_law_two", "_law_a", "_law_b"]) (sc := defScope s_l_fit) (by decide +kernel)) (fun _ _ _ _ _ => (pg_tup rfl (pgs_cons (pg_name (i := 2) sc_l_fit.nd rfl (.inl rfl)) (pgs_cons (pg_name (i := 3) sc_l_fit.nd rfl (.inl rfl)) pgs_nil)))) (fun _ _ _ _ _ => pts_nil) (fun _ _ _ _ _ => (pe_or (pe_cmpR op_isN (pv 2) pe_non (nomark _)) (pe_or (pe_cmpR op_isN (pv 3) pe_non (nomark _)) (pe_one (pe_cmpR op_eq (pv 2) (pv 3) (nomark _))))))) pa_nil)))), ?_⟩
  have el : (rowV r).length = r.length := List.length_map _
  have es : (rowV s').length = s'.length := List.length_map _
  walk_at "wp"
  refine ⟨rowV r, rowV s', .inr ⟨.inl (.inl ha), .inl (.inl hb), ?_⟩⟩
  refine zip_row (fun xs ys n e1 e2 e3 => by subst e1 e2 e3; exact walk_zipT (by omega)) ha hb hr1 hl (fun u v => .bl (fitV u v)) (fun u v H' R c => ?_) (fun _ _ => rfl) (fun D H1 hD s1 hz => ?_)
  · cases u with
    | none =>
      cases v with
      | none =>
        try unfold valV at c
        unfold valV
        walk_at "wp"
        exact c
      | some j =>
        try unfold valV at c
        unfold valV
        walk_at "wp"
        exact c
    | some i =>
      cases v with
      | none =>
        try unfold valV at c
        unfold valV
        walk_at "wp"
        exact c
      | some j =>
        try unfold valV at c
        unfold valV
        walk_at "wp"
        have e : fitV (some i) (some j) = decide (i = j) := by unfold fitV; rw [eqO]; rfl
        rw [e] at c
        exact c
  · rw [zip_bools] at hz
    refine ⟨_, _, rfl, .inl (.inl hz), ?_⟩
    have e : fitR r s' = (List.zipWith fitV r s').all id := by
      unfold fitR
      rw [decide_eq_true hl]
      rfl
    rw [← e]
    exact q _ s1
def joinV (a b : Option Int) : Option Int := match a with
  | none => b
  | some i => some i
def shareV (a b : Option Int) : Option Int := if a == b then a else none
def joinR (r s : Row) : Row := List.zipWith joinV r s
def shareR (r s : Row) : Row := List.zipWith shareV r s
def sp_two (f : Row → Row → Row) : Sp := fun vs H Q _ => ∃ (a b : Addr) (r s : Row), vs = [.ref a, .ref b] ∧ H a = some (.tup (rowV r)) ∧ H b = some (.tup (rowV s)) ∧ r.length ≤ 1000 ∧ r.length = s.length ∧ ∀ p H', Same H H' → H' p = some (.tup (rowV (f r s))) → Q (.ref p) H'
theorem zip_vals (f : Option Int → Option Int → Option Int) : ∀ (r s : Row), List.zipWith (fun u v => valV (f u v)) r s = rowV (List.zipWith f r s)
  | [], _ => by unfold rowV; rw [List.zipWith_nil_left, List.zipWith_nil_left]; rfl
  | _ :: _, [] => by unfold rowV; rw [List.zipWith_nil_right, List.zipWith_nil_right]; rfl
  | a :: r, b :: s => congrArg (valV (f a b) :: ·) (zip_vals f r s)
theorem ok_l_join (T : Txt K mg) : FnOk P w K mg base CX0 1 T.l_join.f T.l_join.d ["_law_one", "_law_two"] (sp_two joinR) := by
  refine T.l_join.F.ok sc_l_join (fun vs H Q E h => ?_) (fun cdv A outer s H vs Q E hr h => ?_)
  · obtain ⟨a, b, r, s, rfl, _⟩ := h
    rfl
  obtain ⟨a, b, r, s', rfl, ha, hb, hr1, hl, q⟩ := h
  refine ⟨_, (pss_one (ps_ret (pe_callTy call_tuple_ofU (by rfl) T.z_tuple (by decide +kernel) (pa_cons (pe_lc (own := [("_law_a", 2), ("_law_b", 3)]) (g := (gTup K 2 (gCons (gName 2) (gCons (gName 3) gNil)))) rfl sc_l_join.nd (RZ.pi_zipA (by rfl) T.z_zip (pa_cons (pv 0) (pa_cons (pv 1) pa_nil))) (blkOk_by (own := [("_law_a", 2), ("_law_b", 3)]) (N := ["_law_one", "_law_two", "_law_a", "_law_b"]) (sc := defScope s_l_join) (by decide +kernel)) (fun _ _ _ _ _ => (pg_tup rfl (pgs_cons (pg_name (i := 2) sc_l_join.nd rfl (.inl rfl)) (pgs_cons (pg_name (i := 3) sc_l_join.nd rfl (.inl rfl)) pgs_nil)))) (fun _ _ _ _ _ => pts_nil) (fun _ _ _ _ _ => (pe_ifExp (pt_cmpR op_isN (pv 2) pe_non (nomark _)) (pv 3) (pv 2)))) pa_nil)))), ?_⟩
  have el : (rowV r).length = r.length := List.length_map _
  have es : (rowV s').length = s'.length := List.length_map _
  walk_at "wp"
  refine ⟨rowV r, rowV s', .inr ⟨.inl (.inl ha), .inl (.inl hb), ?_⟩⟩
  refine zip_row (fun xs ys n e1 e2 e3 => by subst e1 e2 e3; exact walk_zipT (by omega)) ha hb hr1 hl (fun u v => valV (joinV u v)) (fun u v H' R c => ?_) (fun _ _ => rfl) (fun D H1 hD s1 hz => ?_)
  · cases u with
    | none =>
      cases v with
      | none =>
        try unfold valV at c
        unfold valV
        walk_at "wp"
        exact c
      | some j =>
        try unfold valV at c
        unfold valV
        walk_at "wp"
        exact c
    | some i =>
      cases v with
      | none =>
        try unfold valV at c
        unfold valV
        walk_at "wp"
        exact c
      | some j =>
        try unfold valV at c
        unfold valV
        walk_at "wp"
        exact c
  · rw [zip_vals] at hz
    exact ⟨_, rfl, _, .inl hz, fun p H2 s2 h2 => q _ _ (s1.trans s2) h2⟩
theorem ok_common (T : Txt K mg) : FnOk P w K mg base CX0 1 T.common.f T.common.d ["one", "other"] (sp_two shareR) := by
  refine T.common.F.ok sc_common (fun vs H Q E h => ?_) (fun cdv A outer s H vs Q E hr h => ?_)
  · obtain ⟨a, b, r, s, rfl, _⟩ := h
    rfl
  obtain ⟨a, b, r, s', rfl, ha, hb, hr1, hl, q⟩ := h
  refine ⟨_, (pss_one (ps_ret (pe_callTy call_tuple_ofU (by rfl) T.z_tuple (by decide +kernel) (pa_cons (pe_lc (own := [("value", 2), ("against", 3)]) (g := (gTup K 2 (gCons (gName 2) (gCons (gName 3) gNil)))) rfl sc_common.nd (RZ.pi_zipA (by rfl) T.z_zip (pa_cons (pv 0) (pa_cons (pv 1) pa_nil))) (blkOk_by (own := [("value", 2), ("against", 3)]) (N := ["one", "other", "value", "against"]) (sc := defScope s_common) (by decide +kernel)) (fun _ _ _ _ _ => (pg_tup rfl (pgs_cons (pg_name (i := 2) sc_common.nd rfl (.inl rfl)) (pgs_cons (pg_name (i := 3) sc_common.nd rfl (.inl rfl)) pgs_nil)))) (fun _ _ _ _ _ => pts_nil) (fun _ _ _ _ _ => (pe_ifExp (pt_cmpR op_eq (pv 2) (pv 3) (nomark _)) (pv 2) pe_non))) pa_nil)))), ?_⟩
  have el : (rowV r).length = r.length := List.length_map _
  have es : (rowV s').length = s'.length := List.length_map _
  walk_at "wp"
  refine ⟨rowV r, rowV s', .inr ⟨.inl (.inl ha), .inl (.inl hb), ?_⟩⟩
  refine zip_row (fun xs ys n e1 e2 e3 => by subst e1 e2 e3; exact walk_zipT (by omega)) ha hb hr1 hl (fun u v => valV (shareV u v)) (fun u v H' R c => ?_) (fun _ _ => rfl) (fun D H1 hD s1 hz => ?_)
  · cases u with
    | none =>
      cases v with
      | none =>
        try unfold valV at c
        unfold valV
        walk_at "wp"
        exact c
      | some j =>
        try unfold valV at c
        unfold valV
        walk_at "wp"
        exact c
    | some i =>
      cases v with
      | none =>
        try unfold valV at c
        unfold valV
        walk_at "wp"
        exact c
      | some j =>
        try unfold valV at c
        unfold valV
        walk_at "wp"
        unfold shareV at c
        rw [eqO] at c
        by_cases e : i = j
        · rw [decide_eq_true e] at c ⊢
          walk_at "wp"
          exact c
        · rw [decide_eq_false e] at c ⊢
          walk_at "wp"
          exact c
  · rw [zip_vals] at hz
    exact ⟨_, rfl, _, .inl hz, fun p H2 s2 h2 => q _ _ (s1.trans s2) h2⟩
theorem ok_l_shared (T : Txt K mg) : FnOk P w K mg base CX0 1 T.l_shared.f T.l_shared.d ["_law_one", "_law_two"] (sp_two shareR) := by
  refine T.l_shared.F.ok sc_l_shared (fun vs H Q E h => ?_) (fun cdv A outer s H vs Q E hr h => ?_)
  · obtain ⟨a, b, r, s, rfl, _⟩ := h
    rfl
  obtain ⟨a, b, r, s', rfl, ha, hb, hr1, hl, q⟩ := h
  refine ⟨_, (pss_one (ps_ret (pe_callTy call_tuple_ofU (by rfl) T.z_tuple (by decide +kernel) (pa_cons (pe_lc (own := [("_law_a", 2), ("_law_b", 3)]) (g := (gTup K 2 (gCons (gName 2) (gCons (gName 3) gNil)))) rfl sc_l_shared.nd (RZ.pi_zipA (by rfl) T.z_zip (pa_cons (pv 0) (pa_cons (pv 1) pa_nil))) (blkOk_by (own := [("_law_a", 2), ("_law_b", 3)]) (N := ["_law_one", "_law_two", "_law_a", "_law_b"]) (sc := defScope s_l_shared) (by decide +kernel)) (fun _ _ _ _ _ => (pg_tup rfl (pgs_cons (pg_name (i := 2) sc_l_shared.nd rfl (.inl rfl)) (pgs_cons (pg_name (i := 3) sc_l_shared.nd rfl (.inl rfl)) pgs_nil)))) (fun _ _ _ _ _ => pts_nil) (fun _ _ _ _ _ => (pe_ifExp (pt_cmpR op_eq (pv 2) (pv 3) (nomark _)) (pv 2) pe_non))) pa_nil)))), ?_⟩
  have el : (rowV r).length = r.length := List.length_map _
  have es : (rowV s').length = s'.length := List.length_map _
  walk_at "wp"
  refine ⟨rowV r, rowV s', .inr ⟨.inl (.inl ha), .inl (.inl hb), ?_⟩⟩
  refine zip_row (fun xs ys n e1 e2 e3 => by subst e1 e2 e3; exact walk_zipT (by omega)) ha hb hr1 hl (fun u v => valV (shareV u v)) (fun u v H' R c => ?_) (fun _ _ => rfl) (fun D H1 hD s1 hz => ?_)
  · cases u with
    | none =>
      cases v with
      | none =>
        try unfold valV at c
        unfold valV
        walk_at "wp"
        exact c
      | some j =>
        try unfold valV at c
        unfold valV
        walk_at "wp"
        exact c
    | some i =>
      cases v with
      | none =>
        try unfold valV at c
        unfold valV
        walk_at "wp"
        exact c
      | some j =>
        try unfold valV at c
        unfold valV
        walk_at "wp"
        unfold shareV at c
        rw [eqO] at c
        by_cases e : i = j
        · rw [decide_eq_true e] at c ⊢
          walk_at "wp"
          exact c
        · rw [decide_eq_false e] at c ⊢
          walk_at "wp"
          exact c
  · rw [zip_vals] at hz
    exact ⟨_, rfl, _, .inl hz, fun p H2 s2 h2 => q _ _ (s1.trans s2) h2⟩
end
end Kx

set_option Elab.async false
set_option linter.all false
set_option maxRecDepth 100000
set_option maxHeartbeats 4000000
namespace Kx
open PySem PySem.Spec PyProof.Rows L2
local macro_rules | `(tactic| walk_at "wp") => `(tactic| simp only [tSeq, tAsg, tC, tVar, tOp, tUn, rI, rI0, rU, tCB, tCons, tNil, tRet, tRetN, tDrop, tLst, tTup, tIf_eq, tIfS_eq, ifk_t, ifk_f, iek_t, iek_f, tTest, tB, tAnd, tOr, tNot, tAndV, tOrV, tNotV, tNext, tSl, rSlL, tPart, tNoPart, gName, gTup, gCons, gNil, gSub, rSetL, tCall, iList, iTup, iRng1, iRng2, rIxL, rIxT, rEq, rNe, scal_ii, scal_bb, scal_ss, scal_nx, scal_xn, RZ.iZipA, rIsiF, rIsiFT, vty_non, vty_bl, vty_int, vty_str, isa_list_list, isa_list_tuple, isa_list_bool, isa_list_int, isa_list_str, isa_tuple_list, isa_tuple_tuple, isa_tuple_bool, isa_tuple_int, isa_tuple_str, isa_dict_list, isa_dict_tuple, isa_dict_bool, isa_dict_int, isa_dict_str, isa_bool_list, isa_bool_tuple, isa_bool_bool, isa_bool_int, isa_bool_str, isa_int_list, isa_int_tuple, isa_int_bool, isa_int_int, isa_int_str, isa_str_list, isa_str_tuple, isa_str_bool, isa_str_int, isa_str_str, isa_non_list, isa_non_tuple, isa_non_bool, isa_non_int, isa_non_str, kc_bool, kc_int, kc_str, kc_list, kc_tuple, upd_same, HO.tup.injEq, HO.lst.injEq, V.ty.injEq, Bool.or_true, Bool.true_or, Bool.or_false, Bool.false_or, sz_0, sz_1, sz_2, sz_3, sz_4, sz_5, sz_6, sz_7, sz_8, sz_9, sz_10, sz_11, sz_12, sz_13, decide_true, decide_false, C8.tCut, tBM, tBM0, rAppend, rTupU, rRepU, rExtend, rReverse, StX.tStar, tLstRg, tRg1, tRg2, tCKw, tLc2_eq, rCatU, rSlU, rRepT, rRep, rCat, tChain, exists_eq, tPar, tCallN,  tDisp, tPairs, rSlS, rLenS, rLenV, rListOf, rTupOf, tM0, tM1, iStr, wipe, tYes, tFor_eq, tLc_eq, L2.start, cxOf, Cx.nox, Cx.wish, List.map_cons, List.map_nil, List.length_cons, List.length_nil, List.replicate, List.cons_append, List.nil_append, List.getElem?_cons_zero, List.getElem?_cons_succ, List.set_cons_zero, List.set_cons_succ, Option.some.injEq, and_assoc, exists_and_left, exists_and_right, exists_eq_left', exists_eq_left, exists_eq, exists_eq', true_and, and_true, Nat.reduceSub, Nat.reduceAdd, V.int.injEq, V.ref.injEq, V.bl.injEq, V.str.injEq, List.cons.injEq, decide_eq_true_eq, reduceCtorEq, false_or, or_false, and_false, false_and, exists_false, exists_const, if_true, if_false, Bool.true_eq_false, Bool.false_eq_true, ite_true, ite_false, Bool.not_true, Bool.not_false, decide_eq_false_iff_not, ne_eq])

section
variable {P : Program} {w : World} {K : PySem.W.Frag} {mg : Str → Option Value} {base : Heap}
/-! ### joined -/
def sp_joined : Sp := fun vs H Q _ => ∃ (a b : Addr) (r s : Row), vs = [.ref a, .ref b] ∧ H a = some (.tup (rowV r)) ∧ H b = some (.tup (rowV s)) ∧ r.length ≤ 1000 ∧ s.length ≤ 1000 ∧
  (fitR r s = false → ∀ H', Same H H' → Q .non H') ∧ (fitR r s = true → ∀ p H', Same H H' → H' p = some (.tup (rowV (joinR r s))) → Q (.ref p) H')
theorem ok_joined (T : Txt K mg) : FnOk P w K mg base CX0 2 T.joined.f T.joined.d ["one", "other"] sp_joined := by
  have G_rows_fit : FnOk P w K mg base CX0 1 T.rows_fit.f T.rows_fit.d ["one", "other"] (sp_pred fitR) := ok_rows_fit T
  refine T.joined.F.ok sc_joined (fun vs H Q E h => ?_) (fun cdv A outer s H vs Q E hr h => ?_)
  · obtain ⟨a, b, r, s, rfl, _⟩ := h
    rfl
  obtain ⟨a, b, r, s', rfl, ha, hb, hr1, hs1, q1, q2⟩ := h
  refine ⟨_, (pss_cons (ps_if (pt_not (pt_val (pe_call G_rows_fit (hr.mono (by omega)) (by rfl) T.rows_fit.g T.rows_fit.kp T.rows_fit.b .nil pass0 (pa_cons (pv 0) (pa_cons (pv 1) pa_nil)))))
      (pss_one (ps_ret pe_non))
      pss_nil)
      (pss_one (ps_ret (pe_callTy call_tuple_ofU (by rfl) T.z_tuple (by decide +kernel) (pa_cons (pe_lc (own := [("value", 2), ("against", 3)]) (g := (gTup K 2 (gCons (gName 2) (gCons (gName 3) gNil)))) rfl sc_joined.nd (RZ.pi_zipA (by rfl) T.z_zip (pa_cons (pv 0) (pa_cons (pv 1) pa_nil))) (blkOk_by (own := [("value", 2), ("against", 3)]) (N := ["one", "other", "value", "against"]) (sc := defScope s_joined) (by decide +kernel)) (fun _ _ _ _ _ => (pg_tup rfl (pgs_cons (pg_name (i := 2) sc_joined.nd rfl (.inl rfl)) (pgs_cons (pg_name (i := 3) sc_joined.nd rfl (.inl rfl)) pgs_nil)))) (fun _ _ _ _ _ => pts_nil) (fun _ _ _ _ _ => (pe_ifExp (pt_cmpR op_isN (pv 2) pe_non (nomark _)) (pv 3) (pv 2)))) pa_nil))))), ?_⟩
  have el : (rowV r).length = r.length := List.length_map _
  have es : (rowV s').length = s'.length := List.length_map _
  walk_at "wp"
  refine ⟨a, b, r, s', rfl, ha, hb, hr1, hs1, fun H1 s1 => ?_⟩
  cases hf : fitR r s' with
  | false =>
    walk_at "wp"
    exact q1 hf _ s1
  | true =>
    have hl : r.length = s'.length := by
      unfold fitR at hf
      rw [Bool.and_eq_true] at hf
      exact of_decide_eq_true hf.1
    have ha := s1 _ _ ha
    have hb := s1 _ _ hb
    walk_at "wp"
    refine ⟨rowV r, rowV s', .inr ⟨.inl (.inl ha), .inl (.inl hb), ?_⟩⟩
    refine zip_row (fun xs ys n e1 e2 e3 => by subst e1 e2 e3; exact walk_zipT (by omega)) ha hb hr1 hl (fun u v => valV (joinV u v)) (fun u v H' R c => ?_) (fun _ _ => rfl) (fun D H1 hD s1' hz => ?_)
    · cases u with
      | none =>
        unfold joinV at c
        unfold valV at c ⊢
        walk_at "wp"
        exact c
      | some i =>
        unfold joinV at c
        unfold valV at c ⊢
        walk_at "wp"
        exact c
    · rw [zip_vals] at hz
      exact ⟨_, rfl, _, .inl hz, fun p H2 s2 h2 => q2 hf _ _ (s1.trans (s1'.trans s2)) h2⟩
/-! ### the rank of a row, its order -/
def rankV : Option Int → Int
  | none => -1
  | some i => i
def rankR (r : Row) : List Int := r.map rankV
def RowAt (H : Hp) (r : Row) (x : V) : Prop := ∃ a, x = .ref a ∧ H a = some (.tup (rowV r)) ∧ r.length ≤ 1000
theorem RowAt.same {H H' : Hp} {r : Row} {x : V} (e : Same H H') (h : RowAt H r x) : RowAt H' r x := by
  obtain ⟨a, h1, h2, h3⟩ := h
  exact ⟨a, h1, e _ _ h2, h3⟩
theorem RowAt.up {H : Hp} {D : Addr} {ys zs : List V} {r : Row} {x : V} (hD : H D = some (.lst ys)) (h : RowAt H r x) : RowAt (upd H D (.lst zs)) r x := by
  obtain ⟨a, h1, h2, h3⟩ := h
  refine ⟨a, h1, ?_, h3⟩
  rw [upd_ne fun e => by rw [e, hD] at h2; cases h2]
  exact h2
/-- one by one: [f(v) for v in r] -/
theorem map_row {r : Row} {a : Addr} {H : Hp} {J : It} {i : Nat} {te : TE} {vs : List Nat} {σ : L2.St} {Q : VK} (w : ∀ (xs : List V) (n : Nat), xs = rowV r → n = r.length → Walk J n (fun H => SqT K H a xs) (YAt xs))
    (ha : H a = some (.tup (rowV r))) (hz : r.length ≤ 1000) (f : Option Int → V)
    (he : ∀ u H' (R : VK), R (f u) H' → te ((wipe σ vs).set i (some (valV u))) H' R) (hw : ∀ x, wipe ((wipe σ vs).set i x) vs = wipe σ vs)
    (hd : ∀ D H1, H D = none → Same H H1 → H1 D = some (.lst (r.map f)) → Q (.ref D) H1) : LcJ (gName i) tYes te vs σ Q J H := by
  refine lcS (w _ _ rfl rfl) (fun i y => ∃ u, r[i]? = some u ∧ y = f u) (fun H2 s2 => .inl (.inl (s2 _ _ ha))) (by omega) (fun i x H1 H2 R hi s1 hy c => ?_) (fun D H1 ys hD s1 hz hlen hall => ?_)
  · obtain ⟨rfl, e1⟩ := hy
    obtain ⟨u, e3, rfl⟩ := val_at e1
    exact ⟨hw _, he u _ _ (c _ _ (Same.refl _) ⟨u, e3, rfl⟩)⟩
  · refine hd D H1 hD s1 ?_
    rw [hz]
    congr 2
    refine List.ext_getElem? fun i => ?_
    rw [List.getElem?_map]
    by_cases hi : i < ys.length
    · obtain ⟨a, e1, e2⟩ := hall i _ (List.getElem?_eq_getElem hi)
      rw [List.getElem?_eq_getElem hi, e1, e2]
      rfl
    · rw [List.getElem?_eq_none (by omega), List.getElem?_eq_none (by omega : r.length ≤ i)]
      rfl
def sp_rank : Sp := fun vs H Q _ => ∃ (a : Addr) (r : Row), vs = [.ref a] ∧ H a = some (.tup (rowV r)) ∧ r.length ≤ 1000 ∧ ∀ p H', Same H H' → H' p = some (.tup ((rankR r).map V.int)) → Q (.ref p) H'
theorem ok_row_rank (T : Txt K mg) : FnOk P w K mg base CX0 1 T.row_rank.f T.row_rank.d ["row"] sp_rank := by
  refine T.row_rank.F.ok sc_row_rank (fun vs H Q E h => ?_) (fun cdv A outer s H vs Q E hr h => ?_)
  · obtain ⟨a, r, rfl, _⟩ := h
    rfl
  obtain ⟨a, r, rfl, ha, hr1, q⟩ := h
  refine ⟨_, (pss_one (ps_ret (pe_callTy call_tuple_ofU (by rfl) T.z_tuple (by decide +kernel) (pa_cons (pe_lc (own := [("value", 1)]) (g := gName 1) rfl sc_row_rank.nd (pi_tup (pv 0)) (blkOk_by (own := [("value", 1)]) (N := ["row", "value"]) (sc := defScope s_row_rank) (by decide +kernel)) (fun _ _ _ _ _ => (pg_name (i := 1) sc_row_rank.nd rfl (.inl rfl))) (fun _ _ _ _ _ => pts_nil) (fun _ _ _ _ _ => (pe_ifExp (pt_cmpR op_isN (pv 1) pe_non (nomark _)) (pe_un un_neg pe_int) (pv 1)))) pa_nil)))), ?_⟩
  walk_at "wp"
  refine ⟨⟨rowV r, .inl (.inl ha)⟩, ?_⟩
  refine map_row (fun xs n e1 e2 => by subst e1 e2; exact (by rw [show r.length = (rowV r).length from (List.length_map _).symm]; exact walk_tup)) ha hr1 (fun u => .int (rankV u)) (fun u H' R c => ?_) (fun _ => rfl) (fun D H1 hD s1 hz => ?_)
  · cases u with
    | none =>
      unfold rankV at c
      unfold valV
      walk_at "wp"
      exact c
    | some i =>
      unfold rankV at c
      unfold valV
      walk_at "wp"
      exact c
  · refine ⟨_, rfl, _, .inl hz, fun p H2 s2 h2 => q _ _ (s1.trans s2) ?_⟩
    unfold rankR
    rw [List.map_map]
    exact h2
theorem sk_row_rank (T : Txt K mg) : SK P w K mg base 1 T.row_rank.f RowAt rankR := by
  refine ⟨_, _, _, ok_row_rank T, T.row_rank.b, rfl, fun b x H H' e h => h.same e, fun b x H Q h q => ?_⟩
  obtain ⟨a, rfl, h1, h2⟩ := h
  exact ⟨a, b, rfl, h1, h2, q⟩
/-- the rows in their order -/
def ordR (rs : List Row) : List Row := rs.mergeSort (PySem.W.dataLe false fun r => encN (rankR r))
def sp_order (K : PySem.W.Frag) : Sp := fun vs H Q _ => ∃ (a : Addr) (xs : List V) (rs : List Row) (d : Nat), vs = [.ref a] ∧ (SqL K H a xs ∨ SqT K H a xs) ∧ Paired (RowAt H) rs xs ∧ (∀ r ∈ rs, r.length = d) ∧
  ∀ p ys H', H p = none → Same H H' → H' p = some (.lst ys) → Paired (RowAt H') (ordR rs) ys → ys.length = xs.length → Q (.ref p) H'
theorem ok_in_order (T : Txt K mg) : FnOk P w K mg base CX0 4 T.in_order.f T.in_order.d ["rows"] (sp_order K) := by
  refine T.in_order.F.ok sc_in_order (fun vs H Q E h => ?_) (fun cdv A outer s H vs Q E hr h => ?_)
  · obtain ⟨a, xs, rs, d, rfl, _⟩ := h
    rfl
  obtain ⟨a, xs, rs, d, rfl, ha, hp, hd, q⟩ := h
  refine ⟨_, (pss_one (ps_ret (pe_callBK (cr_sortK (hr.mono (by omega)) (sk_row_rank T)) (by rfl) T.z_sorted (by decide +kernel) (pa_cons (pv 0) pa_nil) (pk_cons (pe_glob (v := V.ref T.row_rank.f) (by rfl) T.row_rank.g rfl) pk_nil)))), ?_⟩
  walk_at "wp"
  refine ⟨_, rfl, rfl, a, xs, rs, d, rfl, ha, hp, fun r hr => ?_, q⟩
  unfold rankR
  rw [List.length_map]
  exact hd r hr
end
end Kx

set_option Elab.async false
set_option linter.all false
set_option maxRecDepth 100000
set_option maxHeartbeats 4000000
namespace Kx
open PySem PySem.Spec PyProof.Rows L2
local macro_rules | `(tactic| walk_at "wp") => `(tactic| simp only [tSeq, tAsg, tC, tVar, tOp, tUn, rI, rI0, rU, tCB, tCons, tNil, tRet, tRetN, tDrop, tLst, tTup, tIf_eq, tIfS_eq, ifk_t, ifk_f, iek_t, iek_f, tTest, tB, tAnd, tOr, tNot, tAndV, tOrV, tNotV, tNext, tSl, rSlL, tPart, tNoPart, gName, gTup, gCons, gNil, gSub, rSetL, tCall, iList, iTup, iRng1, iRng2, rIxL, rIxT, rEq, rNe, scal_ii, scal_bb, scal_ss, scal_nx, scal_xn, RZ.iZipA, rIsiF, rIsiFT, vty_non, vty_bl, vty_int, vty_str, isa_list_list, isa_list_tuple, isa_list_bool, isa_list_int, isa_list_str, isa_tuple_list, isa_tuple_tuple, isa_tuple_bool, isa_tuple_int, isa_tuple_str, isa_dict_list, isa_dict_tuple, isa_dict_bool, isa_dict_int, isa_dict_str, isa_bool_list, isa_bool_tuple, isa_bool_bool, isa_bool_int, isa_bool_str, isa_int_list, isa_int_tuple, isa_int_bool, isa_int_int, isa_int_str, isa_str_list, isa_str_tuple, isa_str_bool, isa_str_int, isa_str_str, isa_non_list, isa_non_tuple, isa_non_bool, isa_non_int, isa_non_str, kc_bool, kc_int, kc_str, kc_list, kc_tuple, upd_same, HO.tup.injEq, HO.lst.injEq, V.ty.injEq, Bool.or_true, Bool.true_or, Bool.or_false, Bool.false_or, sz_0, sz_1, sz_2, sz_3, sz_4, sz_5, sz_6, sz_7, sz_8, sz_9, sz_10, sz_11, sz_12, sz_13, decide_true, decide_false, C8.tCut, tBM, tBM0, rAppend, rTupU, rRepU, rExtend, rReverse, StX.tStar, tLstRg, tRg1, tRg2, tCKw, tLc2_eq, rCatU, rSlU, rRepT, rRep, rCat, tChain, exists_eq, tPar, tCallN,  tDisp, tPairs, rSlS, rLenS, rLenV, rListOf, rTupOf, tM0, tM1, iStr, wipe, tYes, tFor_eq, tLc_eq, L2.start, cxOf, Cx.nox, Cx.wish, List.map_cons, List.map_nil, List.length_cons, List.length_nil, List.replicate, List.cons_append, List.nil_append, List.getElem?_cons_zero, List.getElem?_cons_succ, List.set_cons_zero, List.set_cons_succ, Option.some.injEq, and_assoc, exists_and_left, exists_and_right, exists_eq_left', exists_eq_left, exists_eq, exists_eq', true_and, and_true, Nat.reduceSub, Nat.reduceAdd, V.int.injEq, V.ref.injEq, V.bl.injEq, V.str.injEq, List.cons.injEq, decide_eq_true_eq, reduceCtorEq, false_or, or_false, and_false, false_and, exists_false, exists_const, if_true, if_false, Bool.true_eq_false, Bool.false_eq_true, ite_true, ite_false, Bool.not_true, Bool.not_false, decide_eq_false_iff_not, ne_eq])

section
variable {P : Program} {w : World} {K : PySem.W.Frag} {mg : Str → Option Value} {base : Heap}
/-! ### all rows above a row -/
def signsO (k : Int) : List (Option Int) := (List.range k.toNat).map fun i : Nat => some (i : Int)
def chs (k : Int) (v : Option Int) : List (Option Int) := match v with
  | none => none :: signsO k
  | some i => [some i]
def stepR (cs : List (Option Int)) (rs : List Row) : List Row := rs.flatMap fun s => cs.map fun c => s ++ [c]
def aboveR (k : Int) (r : Row) : List Row := r.foldl (fun rs v => stepR (chs k v) rs) [[]]
theorem chs_len {k : Int} (hk : k = 2 ∨ k = 3) (v : Option Int) : (chs k v).length ≤ 4 := by
  cases v with
  | none => rcases hk with rfl | rfl <;> decide
  | some i => show 1 ≤ 4; decide
theorem stepR_len (cs : List (Option Int)) (rs : List Row) : (stepR cs rs).length = rs.length * cs.length := by
  unfold stepR
  induction rs with
  | nil => simp
  | cons r rs ih => rw [List.flatMap_cons, List.length_append, ih, List.length_map, List.length_cons, Nat.succ_mul, Nat.add_comm]
theorem aboveR_snoc (k : Int) (r : Row) (v : Option Int) : aboveR k (r ++ [v]) = stepR (chs k v) (aboveR k r) := by
  unfold aboveR
  rw [List.foldl_append]
  rfl
theorem aboveR_len {k : Int} (hk : k = 2 ∨ k = 3) : ∀ (n : Nat) (r : Row), r.length = n → (aboveR k r).length ≤ 4 ^ n
  | 0, r, h => by
    rw [List.eq_nil_of_length_eq_zero h]
    show 1 ≤ 1
    decide
  | n + 1, r, h => by
    obtain ⟨s, v, rfl⟩ : ∃ s v, r = s ++ [v] := ⟨r.dropLast, r.getLast (fun e => by rw [e] at h; cases h), (List.dropLast_concat_getLast _).symm⟩
    rw [List.length_append, List.length_singleton] at h
    have ih := aboveR_len hk n s (by omega)
    rw [aboveR_snoc, stepR_len, Nat.pow_succ]
    exact Nat.mul_le_mul ih (chs_len hk v)
theorem sl_small {n : Nat} (h : n ≤ 100000) : n ≤ sizeLine := Nat.le_trans h (by decide)
theorem stepR_row {cs : List (Option Int)} {rs : List Row} {n : Nat} (h : ∀ s ∈ rs, s.length = n) : ∀ s ∈ stepR cs rs, s.length = n + 1 := fun s hs => by
  unfold stepR at hs
  obtain ⟨t, ht, hs⟩ := List.mem_flatMap.mp hs
  obtain ⟨c, _, rfl⟩ := List.mem_map.mp hs
  rw [List.length_append, h t ht]
  rfl
theorem aboveR_row {k : Int} : ∀ (n : Nat) (r : Row), r.length = n → ∀ s ∈ aboveR k r, s.length = n
  | 0, r, h => fun s hs => by
    rw [List.eq_nil_of_length_eq_zero h] at hs
    cases List.mem_singleton.mp hs
    rfl
  | n + 1, r, h => by
    obtain ⟨s, v, rfl⟩ : ∃ s v, r = s ++ [v] := ⟨r.dropLast, r.getLast (fun e => by rw [e] at h; cases h), (List.dropLast_concat_getLast _).symm⟩
    rw [List.length_append, List.length_singleton] at h
    rw [aboveR_snoc]
    exact stepR_row (aboveR_row n s (by omega))
theorem pow4 {n : Nat} (h : n ≤ 8) : 4 ^ n ≤ 65536 := Nat.pow_le_pow_right (by decide) h
theorem aboveR_small {k : Int} (hk : k = 2 ∨ k = 3) {r : Row} (h : r.length ≤ 8) : (aboveR k r).length ≤ 65536 := Nat.le_trans (aboveR_len hk _ r rfl) (pow4 h)
theorem paired_two {α β : Type} {R : α → β → Prop} : ∀ {as : List α} {bs : List β}, Paired R as bs → ∀ {i : Nat} {b : β}, bs[i]? = some b → ∃ a, as[i]? = some a ∧ R a b
  | _, _, .nil, _, _, h => by simp at h
  | _, _, .cons a b, 0, _, h => by cases h; exact ⟨_, rfl, a⟩
  | _, _, .cons a b, i + 1, _, h => paired_two b h
theorem rowV_snoc {r : Row} {v : Option Int} : rowV r ++ [valV v] = rowV (r ++ [v]) := by
  unfold rowV
  rw [List.map_append]
  rfl
/-- the i-th row with each of the values -/
theorem stepR_take {cs : List (Option Int)} {rs : List Row} {i : Nat} {r : Row} (h : rs[i]? = some r) : stepR cs (rs.take (i + 1)) = stepR cs (rs.take i) ++ (List.range cs.length).map fun j => r ++ [(cs[j]?).getD none] := by
  have e : rs.take (i + 1) = rs.take i ++ [r] := by rw [List.take_add_one, h]; rfl
  unfold stepR
  rw [e, List.flatMap_append, List.flatMap_singleton]
  congr 1
  refine List.ext_getElem? fun j => ?_
  rw [List.getElem?_map, List.getElem?_map]
  by_cases hj : j < cs.length
  · rw [List.getElem?_eq_getElem hj, List.getElem?_range hj]
    simp [List.getElem?_eq_getElem hj]
  · rw [List.getElem?_eq_none (by omega), List.getElem?_eq_none (by rw [List.length_range]; omega)]
    rfl
def sp_above : Sp := fun vs H Q _ => ∃ (a : Addr) (r : Row) (k : Int), vs = [.ref a, .int k] ∧ H a = some (.tup (rowV r)) ∧ r.length ≤ 8 ∧ (k = 2 ∨ k = 3) ∧
  ∀ p ys H', H p = none → Same H H' → H' p = some (.lst ys) → Paired (RowAt H') (aboveR k r) ys → Q (.ref p) H'
theorem ok_rows_above (T : Txt K mg) : FnOk P w K mg base CX0 1 T.rows_above.f T.rows_above.d ["row", "signs"] sp_above := by
  refine T.rows_above.F.ok sc_rows_above (fun vs H Q E h => ?_) (fun cdv A outer s H vs Q E hr h => ?_)
  · obtain ⟨a, r, k, rfl, _⟩ := h
    rfl
  obtain ⟨a, r, k, rfl, ha, hr8, hk, q⟩ := h
  refine ⟨_, (pss_cons (ps_set (i := 2) sc_rows_above.nd rfl (.inl rfl) (pe_lst (pa_cons (pe_tup pa_nil) pa_nil)))
      (pss_cons (ps_for PassesOwn.never rfl (pi_tup (pv 0)) (pg_name (i := 3) sc_rows_above.nd rfl (.inl rfl))
      (pss_cons (ps_set (i := 4) sc_rows_above.nd rfl (.inr rfl) (pe_lst (pa_cons (pv 3) pa_nil)))
      (C8.pss_cut (ps_if (pt_cmpR op_isN (pv 3) pe_non (nomark _))
      (pss_one (ps_set (i := 4) sc_rows_above.nd rfl (.inr rfl) (pe_lst (pa_cons pe_non (StX.pa_star (pe_listRg rfl (by rfl) T.z_list (prg_1 (by rfl) T.z_range (pv 1))) pa_nil)))))
      pss_nil)
      (pss_one (ps_setLc2 (i := 2) (own := [("start", 5), ("choice", 6)]) (vs1 := [6]) (g := gName 5) (g1 := gName 6) (wi1 := iList K (tVar 4)) rfl sc_rows_above.nd rfl rfl (sw_true rfl rfl rfl (by decide +kernel)) (pi_list (pv 2)) (blkOk_by (own := [("start", 5), ("choice", 6)]) (N := ["row", "signs", "rows", "value", "choices", "start", "choice"]) (sc := defScope s_rows_above) (by decide +kernel)) (by decide) (fun _ _ _ _ _ => (pg_name (i := 5) sc_rows_above.nd rfl (.inl rfl))) (fun _ _ _ _ _ => pts_nil) (fun _ _ _ _ _ => (pi_list (pv 4))) (fun _ _ _ _ _ => (pg_name (i := 6) sc_rows_above.nd rfl (.inl rfl))) (fun _ _ _ _ _ => pts_nil) (fun _ _ _ _ _ => (pe_op op_catU (pv 5) (pe_tup (pa_cons (pv 6) pa_nil)))))))))
      (pss_one (ps_ret (pv 2))))), ?_⟩
  walk_at "wp"
  intro t0 ht0 p0 hp0
  have s0 : Same H (upd (upd H t0 (.tup [])) p0 (.lst [.ref t0])) := (same_upd ht0).trans (same_upd hp0)
  refine ⟨⟨rowV r, .inl (.inl (s0 _ _ ha))⟩, ?_⟩
  obtain ⟨Pv, hPv⟩ : ∃ M : Nat → L2.St → Hp → Prop, ∀ i σ H2, M i σ H2 ↔ ∃ (p : Addr) (ys : List V) (z3 z4 z5 z6 : Option V), σ = [some (.ref a), some (.int k), some (.ref p), z3, z4, z5, z6] ∧ H p = none ∧ Same H H2 ∧ H2 p = some (.lst ys) ∧ Paired (RowAt H2) (aboveR k (r.take i)) ys := ⟨_, fun _ _ _ => Iff.rfl⟩
  refine lp_it (n := r.length) (by rw [show r.length = (rowV r).length from (List.length_map _).symm]; exact walk_tup (xs := rowV r)) (fun i σ H2 => Pv i σ H2) ((hPv _ _ _).mpr ⟨p0, _, none, none, none, none, rfl, (same_upd ht0).free hp0, s0, upd_same, .cons ⟨t0, rfl, (same_upd hp0) _ _ upd_same, by decide⟩ .nil⟩) (fun i σ H2 _ h => ?_) (fun i x σ H2 H3 hi h hy => ?_) (fun σ H2 h => ?_)
  · obtain ⟨p, ys, z3, z4, z5, z6, rfl, hp, s2, hy, hz⟩ := (hPv _ _ _).mp h
    exact .inl (.inl (s2 _ _ ha))
  · obtain ⟨p, ys, z3, z4, z5, z6, rfl, hp, s2, hy2, hz⟩ := (hPv _ _ _).mp h
    obtain ⟨rfl, hx⟩ := hy
    obtain ⟨v, hv, rfl⟩ := val_at hx
    walk_at "wp"
    intro c0 hc0
    have s3 := s2.trans (same_upd (o := .lst [valV v]) hc0)
    have hy3 := (same_upd (o := .lst [valV v]) hc0) _ _ hy2
    have hz3 := paired_mono (fun _ _ h => RowAt.same (same_upd (o := .lst [valV v]) hc0) h) hz
    have hc3 : (upd H3 c0 (.lst [valV v])) c0 = some (.lst [valV v]) := upd_same
    have hpc : p ≠ c0 := ne_of_none hy2 hc0
    generalize upd H3 c0 (.lst [valV v]) = H4 at s3 hy3 hz3 hc3
    obtain ⟨Mid, hMid⟩ : ∃ M : L2.St → Hp → Prop, ∀ σ H2, M σ H2 ↔ ∃ c, σ = [some (.ref a), some (.int k), some (.ref p), some (valV v), some (.ref c), z5, z6] ∧ Same H4 H2 ∧ H2 c = some (.lst ((chs k v).map valV)) := ⟨_, fun _ _ => Iff.rfl⟩
    refine ⟨Mid, ?_, fun σ H5 h => ?_⟩
    · cases v with
      | none =>
        unfold valV
        walk_at "wp"
        refine ⟨.of_le (by decide) (by omega) (by decide) (by omega), fun q hq => ⟨_, .inr (.inl (.inl upd_same)), by rw [List.append_nil, rgV_length]; exact sl_small (by omega), fun q2 hq2 => ?_⟩⟩
        refine (hMid _ _).mpr ⟨q2, rfl, (same_upd hq).trans (same_upd hq2), ?_⟩
        rw [upd_same]
        unfold chs signsO rgV
        rw [List.map_cons, List.map_map, List.append_nil, Int.sub_zero]
        congr 3
        refine List.map_congr_left fun i _ => ?_
        show V.int (0 + (i : Nat)) = V.int (i : Nat)
        rw [Int.zero_add]
      | some i =>
        unfold valV
        walk_at "wp"
        exact (hMid _ _).mpr ⟨c0, rfl, Same.refl _, hc3⟩
    · obtain ⟨c, rfl, s5, hc5⟩ := (hMid _ _).mp h
      have hy5 := s5 _ _ hy3
      have hz5 := paired_mono (fun _ _ h => RowAt.same s5 h) hz3
      have s6 := s3.trans s5
      clear h hMid
      walk_at "wp"
      refine ⟨⟨_, .inl (.inl hy5)⟩, ?_⟩
      have hi8 : i ≤ 8 := by omega
      have rl : (r.take i).length = i := by rw [List.length_take]; omega
      have hT : (aboveR k (r.take i)).length ≤ 65536 := aboveR_small hk (by omega)
      have hyl : ys.length = (aboveR k (r.take i)).length := (paired_len hz).symm
      have e1 : r.take (i + 1) = r.take i ++ [v] := by rw [List.take_add_one, hv]; rfl
      have hT1 : (aboveR k (r.take (i + 1))).length ≤ 65536 := aboveR_small hk (by rw [List.length_take]; omega)
      refine lc2S (walk_list (xs := ys)) RowAt (fun _ _ _ _ e h => h.same e) (fun _ _ _ _ _ _ e h => h.up e) (fun j => stepR (chs k v) ((aboveR k (r.take i)).take j)) (by rw [List.take_zero]; rfl) (fun j hj => ?_) (fun H6 s => .inl (.inl (s _ _ hy5))) (fun j x H6 H7 hj s hY => ?_) (fun D H6 zs hD s hz6 hp6 => ?_)
      · have := stepR_len (chs k v) ((aboveR k (r.take i)).take j)
        rw [e1, aboveR_snoc, stepR_len] at hT1
        rw [this, List.length_take]
        exact Nat.le_trans (Nat.mul_le_mul_right _ (Nat.min_le_right _ _)) (by omega)
      · obtain ⟨rfl, hxj⟩ := hY
        obtain ⟨rw0, hr0, hrw⟩ := paired_two hz5 hxj
        refine ⟨Same.refl _, rfl, fun K2 hK => ?_⟩
        walk_at "wp"
        refine ⟨⟨_, .inl (.inl (s _ _ hc5))⟩, ?_⟩
        refine hK _ _ _ _ _ (fun j => rw0 ++ [((chs k v)[j]?).getD none]) (Same.refl _) (walk_list (xs := (chs k v).map valV)) (by rw [List.length_map]; exact stepR_take hr0) (fun H8 s8 => .inl (.inl (s8 _ _ hc5))) (fun m x1 H8 H9 Rr hm s8 hY1 hR => ⟨rfl, ?_⟩)
        obtain ⟨rfl, hx1⟩ := hY1
        obtain ⟨a1, rfl, ha1, hl1⟩ := hrw.same s8
        rw [List.getElem?_map] at hx1
        obtain ⟨cv, hcv, rfl⟩ : ∃ cv, (chs k v)[m]? = some cv ∧ x1 = valV cv := by
          cases q : (chs k v)[m]? with
          | none => rw [q] at hx1; cases hx1
          | some cv => rw [q] at hx1; cases hx1; exact ⟨cv, rfl, rfl⟩
        walk_at "wp"
        intro t1 ht1
        have rl0 : (rowV rw0).length = rw0.length := List.length_map _
        refine ⟨_, (same_upd ht1) _ _ ha1, by rw [rl0]; show rw0.length + 1 ≤ _; omega, fun p9 H9' s9 h9 => hR _ _ ((same_upd ht1).trans s9) ?_⟩
        have hrl : rw0.length = i := by
          have := aboveR_row _ _ rl rw0 (List.mem_of_getElem? hr0)
          exact this
        refine ⟨p9, rfl, ?_, by rw [List.length_append, hrl]; show i + 1 ≤ 1000; omega⟩
        rw [h9, hcv]
        exact congrArg (fun z => some (HO.tup z)) rowV_snoc
      · rw [hyl, List.take_length, ← aboveR_snoc, ← e1] at hp6
        exact (hPv _ _ _).mpr ⟨D, zs, _, _, _, _, rfl, s6.free hD, s6.trans s, hz6, hp6⟩
  · obtain ⟨p, ys, z3, z4, z5, z6, rfl, hp, s2, hy2, hz⟩ := (hPv _ _ _).mp h
    walk_at "wp"
    rw [List.take_length] at hz
    exact q _ _ _ hp s2 hy2 hz
end
end Kx

set_option Elab.async false
set_option linter.all false
set_option maxRecDepth 100000
set_option maxHeartbeats 4000000
namespace Kx
open PySem PySem.Spec PyProof.Rows L2
local macro_rules | `(tactic| walk_at "wp") => `(tactic| simp only [tSeq, tAsg, tC, tVar, tOp, tUn, rI, rI0, rU, tCB, tCons, tNil, tRet, tRetN, tDrop, tLst, tTup, tIf_eq, tIfS_eq, ifk_t, ifk_f, iek_t, iek_f, tTest, tB, tAnd, tOr, tNot, tAndV, tOrV, tNotV, tNext, tSl, rSlL, tPart, tNoPart, gName, gTup, gCons, gNil, gSub, rSetL, tCall, iList, iTup, iRng1, iRng2, rIxL, rIxT, rEq, rNe, scal_ii, scal_bb, scal_ss, scal_nx, scal_xn, RZ.iZipA, rIsiF, rIsiFT, vty_non, vty_bl, vty_int, vty_str, isa_list_list, isa_list_tuple, isa_list_bool, isa_list_int, isa_list_str, isa_tuple_list, isa_tuple_tuple, isa_tuple_bool, isa_tuple_int, isa_tuple_str, isa_dict_list, isa_dict_tuple, isa_dict_bool, isa_dict_int, isa_dict_str, isa_bool_list, isa_bool_tuple, isa_bool_bool, isa_bool_int, isa_bool_str, isa_int_list, isa_int_tuple, isa_int_bool, isa_int_int, isa_int_str, isa_str_list, isa_str_tuple, isa_str_bool, isa_str_int, isa_str_str, isa_non_list, isa_non_tuple, isa_non_bool, isa_non_int, isa_non_str, kc_bool, kc_int, kc_str, kc_list, kc_tuple, upd_same, HO.tup.injEq, HO.lst.injEq, V.ty.injEq, Bool.or_true, Bool.true_or, Bool.or_false, Bool.false_or, sz_0, sz_1, sz_2, sz_3, sz_4, sz_5, sz_6, sz_7, sz_8, sz_9, sz_10, sz_11, sz_12, sz_13, decide_true, decide_false, C8.tCut, tBM, tBM0, rAppend, rTupU, rRepU, rExtend, rReverse, StX.tStar, tLstRg, tRg1, tRg2, tCKw, tLc2_eq, rCatU, rSlU, rRepT, rRep, rCat, tChain, exists_eq, tPar, tCallN,  tDisp, tPairs, rSlS, rLenS, rLenV, rListOf, rTupOf, tM0, tM1, iStr, wipe, tYes, tFor_eq, tLc_eq, L2.start, cxOf, Cx.nox, Cx.wish, List.map_cons, List.map_nil, List.length_cons, List.length_nil, List.replicate, List.cons_append, List.nil_append, List.getElem?_cons_zero, List.getElem?_cons_succ, List.set_cons_zero, List.set_cons_succ, Option.some.injEq, and_assoc, exists_and_left, exists_and_right, exists_eq_left', exists_eq_left, exists_eq, exists_eq', true_and, and_true, Nat.reduceSub, Nat.reduceAdd, V.int.injEq, V.ref.injEq, V.bl.injEq, V.str.injEq, List.cons.injEq, decide_eq_true_eq, reduceCtorEq, false_or, or_false, and_false, false_and, exists_false, exists_const, if_true, if_false, Bool.true_eq_false, Bool.false_eq_true, ite_true, ite_false, Bool.not_true, Bool.not_false, decide_eq_false_iff_not, ne_eq])

/-- a comprehension, each of whose items is told by the heap -/
theorem lcP {α : Type} {J : It} {n : Nat} {G : Hp → Prop} {Y : Nat → Hp → V → Hp → Prop} (wk : Walk J n G Y) {gi : Nat} {te : TE} {vs : List Nat} {σ : L2.St} {H1 : Hp} {Q : VK} (R : Hp → α → V → Prop) (p1 : ∀ H H' b y, Same H H' → R H b y → R H' b y) (p2 : ∀ H D ys zs b y, H D = some (.lst ys) → R H b y → R (upd H D (.lst zs)) b y)
    (bs : List α) (hl : bs.length = n) (hn : n ≤ 100000) (hG : ∀ H, Same H1 H → G H)
    (hs : ∀ i x H H' (Rr : VK) b, bs[i]? = some b → Same H1 H → Y i H x H' → (∀ y H4, Same H H4 → R H4 b y → Rr y H4) → wipe ((wipe σ vs).set gi (some x)) vs = wipe σ vs ∧ te ((wipe σ vs).set gi (some x)) H' Rr)
    (hd : ∀ D H ys, H1 D = none → Same H1 H → H D = some (.lst ys) → Paired (R H) bs ys → Q (.ref D) H) : LcJ (gName gi) tYes te vs σ Q J H1 := by
  intro D hD
  have grow : ∀ {H : Hp} {zs : List V}, Same H1 H → Same H1 (upd H D (.lst zs)) := fun {H zs} s a o e => by
    rw [upd_ne (ne_of_none e hD)]
    exact s _ _ e
  refine lc_it wk (fun i H => Same H1 H ∧ ∃ ys, H D = some (.lst ys) ∧ Paired (R H) (bs.take i) ys) ⟨same_upd hD, [], upd_same, by rw [List.take_zero]; exact .nil⟩ (fun i H _ h => hG H h.1) (fun i x H H' hi h y => ?_) (fun H h => ?_)
  · obtain ⟨h1, ys, h2, h3⟩ := h
    obtain ⟨b, hb⟩ : ∃ b, bs[i]? = some b := ⟨_, List.getElem?_eq_getElem (by omega)⟩
    have hyl := paired_len h3
    rw [List.length_take] at hyl
    obtain ⟨hw, ht⟩ := hs i x H H' (fun y H4 => ∃ acc, H4 D = some (.lst acc) ∧ acc.length < sizeLine ∧ (Same H1 (upd H4 D (.lst (acc ++ [y]))) ∧ ∃ ys, (upd H4 D (.lst (acc ++ [y]))) D = some (.lst ys) ∧ Paired (R (upd H4 D (.lst (acc ++ [y])))) (bs.take (i + 1)) ys)) b hb h1 y fun z H4 s4 r => by
      refine ⟨ys, s4 _ _ h2, Nat.lt_of_lt_of_le (by omega : ys.length < 100001) (by decide), grow (h1.trans s4), _, upd_same, ?_⟩
      rw [List.take_add_one, hb]
      exact Paired.snoc (paired_mono (fun b y h => p2 _ _ _ _ _ _ (s4 _ _ h2) (p1 _ _ _ _ s4 h)) h3) (p2 _ _ _ _ _ _ (s4 _ _ h2) r)
    refine ⟨hw, ?_⟩
    unfold tYes
    dsimp only
    rw [if_pos rfl]
    exact ht
  · obtain ⟨h1, ys, h2, h3⟩ := h
    rw [List.take_of_length_le (by omega)] at h3
    exact hd D H ys hD h1 h2 h3
section
variable {P : Program} {w : World} {K : PySem.W.Frag} {mg : Str → Option Value} {base : Heap}
/-! ### every row -/
theorem rep_non (n : Nat) : (List.replicate n [V.non]).flatten = rowV (List.replicate n none) := by
  unfold rowV
  rw [List.map_replicate]
  induction n with
  | zero => rfl
  | succ n ih => rw [List.replicate_succ, List.flatten_cons, ih]; rfl
def sp_every : Sp := fun vs H Q _ => ∃ (n k : Int), vs = [.int n, .int k] ∧ 0 ≤ n ∧ n ≤ 8 ∧ (k = 2 ∨ k = 3) ∧
  ∀ p ys H', H p = none → Same H H' → H' p = some (.lst ys) → Paired (RowAt H') (aboveR k (List.replicate n.toNat none)) ys → Q (.ref p) H'
theorem kb_every (T : Txt K mg) : ∃ mv : List Value, KBn K T.every_row.d ["inputs", "signs"] 1 ["signs"] (fun us ws => us ++ ws) (fun vs zs => vs ++ zs) :=
  T.every_row.F.kbinds0 1 ["signs"] [] (fun us _ ws => us ++ ws) (by simp) (by simp) (fun r1 _ r2 => r1.append r2) (fun D doc pm an cdv ct us mv ws h1 h2 h3 => match us, ws, mv, h1, h2, h3 with | [_], [_], [], _, _, _ => rfl)
theorem b1_every (T : Txt K mg) : ∃ ds, Vals [.int 2] ds ∧ Binds K T.every_row.d ["inputs", "signs"] ds :=
  T.every_row.F.binds0 1 (by simp) rfl (fun D doc pm an cdv ct us ks h1 h2 => match us, ks, h1, h2 with | [_], [_], _, _ => ⟨_, _, _, _, _, _, rfl, rfl, rfl⟩)
theorem ok_every_row (T : Txt K mg) : FnOk P w K mg base CX0 2 T.every_row.f T.every_row.d ["inputs", "signs"] sp_every := by
  have G_rows_above : FnOk P w K mg base CX0 1 T.rows_above.f T.rows_above.d ["row", "signs"] sp_above := ok_rows_above T
  refine T.every_row.F.ok sc_every_row (fun vs H Q E h => ?_) (fun cdv A outer s H vs Q E hr h => ?_)
  · obtain ⟨n, k, rfl, _⟩ := h
    rfl
  obtain ⟨n, k, rfl, n0, n8, hk, q⟩ := h
  refine ⟨_, (pss_one (ps_ret (pe_call G_rows_above (hr.mono (by omega)) (by rfl) T.rows_above.g T.rows_above.kp T.rows_above.b .nil pass0 (pa_cons (pe_op op_repU (pe_tup (pa_cons pe_non pa_nil)) (pv 0)) (pa_cons (pv 1) pa_nil))))), ?_⟩
  walk_at "wp"
  intro t ht
  refine ⟨fun e => e, n0, by omega, by decide, fun p H1 s1 h1 => ?_⟩
  rw [rep_non] at h1
  refine ⟨p, _, k, rfl, h1, by rw [List.length_replicate]; omega, hk, fun p2 ys H2 hp2 s2 h2 h3 => q _ _ _ ?_ ((same_upd ht).trans (s1.trans s2)) h2 h3⟩
  exact ((same_upd ht).trans s1).free hp2
theorem paired_append {α β : Type} {R : α → β → Prop} : ∀ {as cs : List α} {bs ds : List β}, Paired R as bs → Paired R cs ds → Paired R (as ++ cs) (bs ++ ds)
  | _, _, _, _, .nil, h => h
  | _, _, _, _, .cons a b, h => .cons a (paired_append b h)
/-! ### the law's own -/
theorem vals_chs {k : Int} (hk : k = 2 ∨ k = 3) : valsOf k = (chs k none).map valV := by
  rcases hk with rfl | rfl <;> rfl
theorem replicate_snoc {α : Type} (n : Nat) (a : α) : List.replicate (n + 1) a = List.replicate n a ++ [a] := by
  rw [List.replicate_succ']
theorem ok_l_rows (T : Txt K mg) : FnOk P w K mg base CX0 2 T.l_rows.f T.l_rows.d ["_law_n", "_law_base"] sp_every := by
  have G_l_values : FnOk P w K mg base CX0 1 T.l_values.f T.l_values.d ["_law_base"] sp_values := ok_values T
  refine T.l_rows.F.ok sc_l_rows (fun vs H Q E h => ?_) (fun cdv A outer s H vs Q E hr h => ?_)
  · obtain ⟨n, k, rfl, _⟩ := h
    rfl
  obtain ⟨n, k, rfl, n0, n8, hk, q⟩ := h
  refine ⟨_, (pss_cons (ps_set (i := 2) sc_l_rows.nd rfl (.inl rfl) (pe_lst (pa_cons (pe_tup pa_nil) pa_nil)))
      (pss_cons (ps_for PassesOwn.never rfl (pi_range1 (by rfl) T.z_range (pa_cons (pv 0) pa_nil)) (pg_name (i := 3) sc_l_rows.nd rfl (.inl rfl))
      (pss_cons (ps_set (i := 4) sc_l_rows.nd rfl (.inl rfl) (pe_lst pa_nil))
      (pss_cons (ps_for PassesOwn.never rfl (pi_list (pv 2)) (pg_name (i := 5) sc_l_rows.nd rfl (.inr rfl))
      (pss_one (ps_expr (pe_bm PySem.F.plainAttrs_list PySem.F.slot_list_extend PySem.F.type_list_extend mt_extend (pv 4) (pa_cons (pe_lc (own := [("_law_v", 6)]) (g := gName 6) rfl sc_l_rows.nd (pi_list (pe_call G_l_values (hr.mono (by omega)) (by rfl) T.l_values.g T.l_values.kp T.l_values.b .nil pass0 (pa_cons (pv 1) pa_nil))) (blkOk_by (own := [("_law_v", 6)]) (N := ["_law_n", "_law_base", "_law_found", "_law_k", "_law_more", "_law_row_here", "_law_v"]) (sc := defScope s_l_rows) (by decide +kernel)) (fun _ _ _ _ _ => (pg_name (i := 6) sc_l_rows.nd rfl (.inl rfl))) (fun _ _ _ _ _ => pts_nil) (fun _ _ _ _ _ => (pe_op op_catU (pv 5) (pe_tup (pa_cons (pv 6) pa_nil))))) pa_nil)))))
      (pss_one (ps_set (i := 2) sc_l_rows.nd rfl (.inl rfl) (pv 4))))))
      (pss_one (ps_ret (pv 2))))), ?_⟩
  walk_at "wp"
  intro t0 ht0 p0 hp0
  have s0 : Same H (upd (upd H t0 (.tup [])) p0 (.lst [.ref t0])) := (same_upd ht0).trans (same_upd hp0)
  refine ⟨by omega, by omega, ?_⟩
  obtain ⟨Pv, hPv⟩ : ∃ M : Nat → L2.St → Hp → Prop, ∀ i σ H2, M i σ H2 ↔ ∃ (p : Addr) (ys : List V) (z3 z4 z5 z6 : Option V), σ = [some (.int n), some (.int k), some (.ref p), z3, z4, z5, z6] ∧ H p = none ∧ Same H H2 ∧ H2 p = some (.lst ys) ∧ Paired (RowAt H2) (aboveR k (List.replicate i none)) ys := ⟨_, fun _ _ _ => Iff.rfl⟩
  refine lp_it (walk_range (n := n.toNat)) (fun i σ H2 => Pv i σ H2) ((hPv _ _ _).mpr ⟨p0, _, none, none, none, none, rfl, (same_upd ht0).free hp0, s0, upd_same, .cons ⟨t0, rfl, (same_upd hp0) _ _ upd_same, by decide⟩ .nil⟩) (fun _ _ _ _ _ => trivial) (fun i x σ H2 H3 hi h hy => ?_) (fun σ H2 h => ?_)
  · obtain ⟨p, ys, z3, z4, z5, z6, rfl, hp, s2, hy2, hz⟩ := (hPv _ _ _).mp h
    obtain ⟨rfl, rfl⟩ := hy
    walk_at "wp"
    intro m hm
    have hpm : p ≠ m := ne_of_none hy2 hm
    have s3 := s2.trans (same_upd (o := .lst []) hm)
    have hHm : H m = none := s2.free hm
    have hy3 := (same_upd (o := .lst []) hm) _ _ hy2
    have hz3 := paired_mono (fun _ _ h => RowAt.same (same_upd (o := .lst []) hm) h) hz
    have hm3 : (upd H3 m (.lst [])) m = some (.lst []) := upd_same
    generalize upd H3 m (.lst []) = H4 at s3 hy3 hz3 hm3
    refine ⟨⟨_, .inl (.inl hy3)⟩, ?_⟩
    have hyl : ys.length = (aboveR k (List.replicate i none)).length := (paired_len hz).symm
    have hi8 : i ≤ 8 := by omega
    have hT : (aboveR k (List.replicate i none)).length ≤ 65536 := aboveR_small hk (by rw [List.length_replicate]; omega)
    have hT1 : (aboveR k (List.replicate (i + 1) none)).length ≤ 65536 := aboveR_small hk (by rw [List.length_replicate]; omega)
    rw [replicate_snoc, aboveR_snoc] at hT1
    obtain ⟨Pw, hPw⟩ : ∃ M : Nat → L2.St → Hp → Prop, ∀ j σ H2, M j σ H2 ↔ ∃ (zs : List V) (z5 z6 : Option V), σ = [some (.int n), some (.int k), some (.ref p), some (.int (0 + i)), some (.ref m), z5, z6] ∧ Same H H2 ∧ H2 p = some (.lst ys) ∧ Paired (RowAt H2) (aboveR k (List.replicate i none)) ys ∧ H2 m = some (.lst zs) ∧ Paired (RowAt H2) (stepR (chs k none) ((aboveR k (List.replicate i none)).take j)) zs := ⟨_, fun _ _ _ => Iff.rfl⟩
    refine lp_it (walk_list (xs := ys)) (fun j σ H2 => Pw j σ H2) ((hPw _ _ _).mpr ⟨[], _, _, rfl, s3, hy3, hz3, hm3, by rw [List.take_zero]; exact .nil⟩) (fun j σ H2 _ h => ?_) (fun j x σ H5 H6 hj h hY => ?_) (fun σ H2 h => ?_)
    · obtain ⟨zs, z5, z6, rfl, s5, hy5, hz5, hm5, hw5⟩ := (hPw _ _ _).mp h
      exact .inl (.inl hy5)
    · obtain ⟨zs, z5, z6, rfl, s5, hy5, hz5, hm5, hw5⟩ := (hPw _ _ _).mp h
      obtain ⟨rfl, hxj⟩ := hY
      obtain ⟨rw0, hr0, hrw⟩ := paired_two hz5 hxj
      walk_at "wp"
      refine ⟨.inl ⟨rfl, _, .inl (.inl hm5)⟩, k, rfl, hk, fun v Hv hv sv hvv => ⟨_, rfl, ⟨_, .inl (.inl hvv)⟩, ?_⟩⟩
      rw [vals_chs hk] at hvv
      have hrl : rw0.length = i := by
        have := aboveR_row _ _ (List.length_replicate) rw0 (List.mem_of_getElem? hr0)
        exact this
      refine lcP (walk_list (xs := (chs k none).map valV)) RowAt (fun _ _ _ _ e h => h.same e) (fun _ _ _ _ _ _ e h => h.up e) ((chs k none).map fun c => rw0 ++ [c]) (by rw [List.length_map, List.length_map]) (by rw [List.length_map]; exact Nat.le_trans (chs_len hk _) (by decide)) (fun H7 s => .inl (.inl (s _ _ hvv))) (fun q x1 H7 H8 Rr b hb s hY1 hR => ⟨rfl, ?_⟩) (fun D H7 ws hD s hw7 hp7 => ?_)
      · obtain ⟨rfl, hx1⟩ := hY1
        obtain ⟨a1, rfl, ha1, hl1⟩ := (hrw.same sv).same s
        rw [List.getElem?_map] at hx1 hb
        obtain ⟨cv, hcv, rfl⟩ : ∃ cv, (chs k none)[q]? = some cv ∧ x1 = valV cv := by
          cases e : (chs k none)[q]? with
          | none => rw [e] at hx1; cases hx1
          | some cv => rw [e] at hx1; cases hx1; exact ⟨cv, rfl, rfl⟩
        rw [hcv] at hb
        obtain rfl : rw0 ++ [cv] = b := Option.some.inj hb
        walk_at "wp"
        intro t1 ht1
        have rl0 : (rowV rw0).length = rw0.length := List.length_map _
        refine ⟨_, (same_upd ht1) _ _ ha1, by rw [rl0]; show rw0.length + 1 ≤ _; omega, fun p9 H9' s9 h9 => hR _ _ ((same_upd ht1).trans s9) ⟨p9, rfl, ?_, by rw [List.length_append, hrl]; show i + 1 ≤ 1000; omega⟩⟩
        rw [h9]
        exact congrArg (fun z => some (HO.tup z)) rowV_snoc
      · have s7 := sv.trans s
        have hm7 := s7 _ _ hm5
        have hDm : D ≠ m := Ne.symm (ne_of_none (sv _ _ hm5) hD)
        have hl7 := paired_len hp7
        rw [List.length_map] at hl7
        have hl5 := paired_len hw5
        rw [stepR_len, List.length_take] at hl5
        have hle : min j (aboveR k (List.replicate i none)).length * (chs k none).length ≤ 65536 := by
          rw [stepR_len] at hT1
          exact Nat.le_trans (Nat.mul_le_mul_right _ (Nat.min_le_right _ _)) hT1
        have hc4 := chs_len hk none
        refine ⟨_, rfl, zs, hm7, _, hw7, sl_small (by omega), (hPw _ _ _).mpr ⟨zs ++ ws, _, _, rfl, ?_, ?_, paired_mono (fun _ _ h => (h.same s7).up hm7) hz5, upd_same, ?_⟩⟩
        · intro b o e
          rw [upd_ne (ne_of_none e hHm)]
          exact s7 _ _ (s5 _ _ e)
        · rw [upd_ne hpm]
          exact s7 _ _ hy5
        · have e : stepR (chs k none) ((aboveR k (List.replicate i none)).take (j + 1)) = stepR (chs k none) ((aboveR k (List.replicate i none)).take j) ++ (chs k none).map fun c => rw0 ++ [c] := by
            rw [List.take_add_one, hr0]
            unfold stepR
            rw [List.flatMap_append]
            congr 1
            exact List.flatMap_singleton _ _
          rw [e]
          exact paired_append (paired_mono (fun _ _ h => (h.same s7).up hm7) hw5) (paired_mono (fun _ _ h => h.up hm7) hp7)
    · obtain ⟨zs, z5, z6, rfl, s5, hy5, hz5, hm5, hw5⟩ := (hPw _ _ _).mp h
      rw [hyl, List.take_length, ← aboveR_snoc, ← replicate_snoc] at hw5
      walk_at "wp"
      exact (hPv _ _ _).mpr ⟨m, zs, _, _, _, _, rfl, hHm, s5, hm5, hw5⟩
  · obtain ⟨p, ys, z3, z4, z5, z6, rfl, hp, s2, hy2, hz⟩ := (hPv _ _ _).mp h
    walk_at "wp"
    exact q _ _ _ hp s2 hy2 hz
end
end Kx

set_option Elab.async false
set_option linter.all false
set_option maxRecDepth 100000
set_option maxHeartbeats 4000000
namespace Kx
open PySem PySem.Spec PyProof.Rows L2
local macro_rules | `(tactic| walk_at "wp") => `(tactic| simp only [tSeq, tAsg, tC, tVar, tOp, tUn, rI, rI0, rU, tCB, tCons, tNil, tRet, tRetN, tDrop, tLst, tTup, tIf_eq, tIfS_eq, ifk_t, ifk_f, iek_t, iek_f, tTest, tB, tAnd, tOr, tNot, tAndV, tOrV, tNotV, tNext, tSl, rSlL, tPart, tNoPart, gName, gTup, gCons, gNil, gSub, rSetL, tCall, iList, iTup, iRng1, iRng2, rIxL, rIxT, rEq, rNe, scal_ii, scal_bb, scal_ss, scal_nx, scal_xn, RZ.iZipA, rIsiF, rIsiFT, vty_non, vty_bl, vty_int, vty_str, isa_list_list, isa_list_tuple, isa_list_bool, isa_list_int, isa_list_str, isa_tuple_list, isa_tuple_tuple, isa_tuple_bool, isa_tuple_int, isa_tuple_str, isa_dict_list, isa_dict_tuple, isa_dict_bool, isa_dict_int, isa_dict_str, isa_bool_list, isa_bool_tuple, isa_bool_bool, isa_bool_int, isa_bool_str, isa_int_list, isa_int_tuple, isa_int_bool, isa_int_int, isa_int_str, isa_str_list, isa_str_tuple, isa_str_bool, isa_str_int, isa_str_str, isa_non_list, isa_non_tuple, isa_non_bool, isa_non_int, isa_non_str, kc_bool, kc_int, kc_str, kc_list, kc_tuple, upd_same, HO.tup.injEq, HO.lst.injEq, V.ty.injEq, Bool.or_true, Bool.true_or, Bool.or_false, Bool.false_or, sz_0, sz_1, sz_2, sz_3, sz_4, sz_5, sz_6, sz_7, sz_8, sz_9, sz_10, sz_11, sz_12, sz_13, decide_true, decide_false, C8.tCut, tBM, tBM0, rAppend, rTupU, rRepU, rExtend, rReverse, StX.tStar, tLstRg, tRg1, tRg2, tCKw, tLc2_eq, rCatU, rSlU, rRepT, rRep, rCat, tChain, exists_eq, tPar, tCallN,  tDisp, tPairs, rSlS, rLenS, rLenV, rListOf, rTupOf, tM0, tM1, iStr, wipe, tYes, tFor_eq, tLc_eq, L2.start, cxOf, Cx.nox, Cx.wish, List.map_cons, List.map_nil, List.length_cons, List.length_nil, List.replicate, List.cons_append, List.nil_append, List.getElem?_cons_zero, List.getElem?_cons_succ, List.set_cons_zero, List.set_cons_succ, Option.some.injEq, and_assoc, exists_and_left, exists_and_right, exists_eq_left', exists_eq_left, exists_eq, exists_eq', true_and, and_true, Nat.reduceSub, Nat.reduceAdd, V.int.injEq, V.ref.injEq, V.bl.injEq, V.str.injEq, List.cons.injEq, decide_eq_true_eq, reduceCtorEq, false_or, or_false, and_false, false_and, exists_false, exists_const, if_true, if_false, Bool.true_eq_false, Bool.false_eq_true, ite_true, ite_false, Bool.not_true, Bool.not_false, decide_eq_false_iff_not, ne_eq])

/-! ### of rows, two by two -/
theorem belowR_len {r s : Row} (h : belowR r s = true) : r.length = s.length := by
  unfold belowR at h
  rw [Bool.and_eq_true] at h
  exact of_decide_eq_true h.1
theorem fitR_len {r s : Row} (h : fitR r s = true) : r.length = s.length := by
  unfold fitR at h
  rw [Bool.and_eq_true] at h
  exact of_decide_eq_true h.1
theorem belowR_cons (a b : Option Int) (r s : Row) : belowR (a :: r) (b :: s) = (belowV a b && belowR r s) := by
  unfold belowR
  rw [List.zipWith_cons_cons, List.all_cons, List.length_cons, List.length_cons]
  have e : decide (r.length + 1 = s.length + 1) = decide (r.length = s.length) := decide_eq_decide.mpr (by omega)
  rw [e]
  simp only [id]
  cases decide (r.length = s.length) <;> cases belowV a b <;> rfl
theorem fitR_cons (a b : Option Int) (r s : Row) : fitR (a :: r) (b :: s) = (fitV a b && fitR r s) := by
  unfold fitR
  rw [List.zipWith_cons_cons, List.all_cons, List.length_cons, List.length_cons]
  have e : decide (r.length + 1 = s.length + 1) = decide (r.length = s.length) := decide_eq_decide.mpr (by omega)
  rw [e]
  simp only [id]
  cases decide (r.length = s.length) <;> cases fitV a b <;> rfl
theorem oeq {a b : Option Int} : (a == b) = decide (a = b) := by
  rw [Bool.eq_iff_iff]
  simp
theorem meetV (c a b : Option Int) : belowV c (shareV a b) = (belowV c a && belowV c b) := by
  unfold belowV shareV
  rw [oeq, oeq, oeq]
  by_cases h : a = b
  · subst h
    rw [decide_eq_true rfl, if_pos rfl, oeq]
    cases decide (c = a) <;> cases c.isNone <;> rfl
  · rw [decide_eq_false h, if_neg (by simp), oeq]
    cases c with
    | none => rfl
    | some c =>
      show (false || decide (some c = none)) = ((false || decide (some c = a)) && (false || decide (some c = b)))
      by_cases h1 : some c = a
      · rw [decide_eq_false (p := some c = b) fun e => h (h1.symm.trans e)]
        cases decide (some c = a) <;> rfl
      · rw [decide_eq_false h1]
        rfl
theorem joinVB (a b r : Option Int) (h : fitV a b = true) : belowV (joinV a b) r = (belowV a r && belowV b r) := by
  unfold fitV at h
  unfold belowV joinV
  cases a <;> cases b <;> cases r <;> simp_all [oeq]
theorem nofitV (a b r : Option Int) (h : fitV a b = false) : (belowV a r && belowV b r) = false := by
  unfold fitV at h
  unfold belowV
  cases a <;> cases b <;> cases r <;> simp_all [oeq] <;> omega
theorem fitV_comm (a b : Option Int) : fitV b a = fitV a b := by
  unfold fitV
  rw [oeq, oeq, show decide (b = a) = decide (a = b) from decide_eq_decide.mpr eq_comm]
  cases a <;> cases b <;> rfl
theorem joinV_comm (a b : Option Int) (h : fitV a b = true) : joinV b a = joinV a b := by
  unfold fitV at h
  unfold joinV
  cases a <;> cases b <;> simp_all [oeq]
theorem fitV_self (a : Option Int) : fitV a a = true := by
  unfold fitV
  cases a <;> simp
theorem joinV_self (a : Option Int) : joinV a a = a := by
  unfold joinV
  cases a <;> rfl
theorem shareV_comm (a b : Option Int) : shareV b a = shareV a b := by
  unfold shareV
  rw [oeq, oeq]
  by_cases h : a = b
  · subst h
    rfl
  · rw [decide_eq_false h, decide_eq_false fun e => h e.symm]
    rfl
theorem shareV_self (a : Option Int) : shareV a a = a := by
  unfold shareV
  rw [oeq, decide_eq_true rfl]
  rfl
theorem fitR_comm : ∀ (r s : Row), fitR s r = fitR r s
  | [], [] => rfl
  | [], _ :: _ => by simp [fitR]
  | _ :: _, [] => by simp [fitR]
  | a :: r, b :: s => by rw [fitR_cons, fitR_cons, fitV_comm, fitR_comm r s]
theorem fitR_self : ∀ (r : Row), fitR r r = true
  | [] => rfl
  | a :: r => by rw [fitR_cons, fitV_self, fitR_self r]; rfl
theorem joinR_self : ∀ (r : Row), joinR r r = r
  | [] => rfl
  | a :: r => by
    show joinV a a :: joinR r r = a :: r
    rw [joinV_self, joinR_self r]
theorem shareR_self : ∀ (r : Row), shareR r r = r
  | [] => rfl
  | a :: r => by
    show shareV a a :: shareR r r = a :: r
    rw [shareV_self, shareR_self r]
theorem shareR_comm : ∀ (r s : Row), shareR s r = shareR r s
  | [], [] => rfl
  | [], _ :: _ => rfl
  | _ :: _, [] => rfl
  | a :: r, b :: s => by
    show shareV b a :: shareR s r = shareV a b :: shareR r s
    rw [shareV_comm, shareR_comm r s]
theorem joinR_comm : ∀ (r s : Row), fitR r s = true → joinR s r = joinR r s
  | [], [], _ => rfl
  | [], _ :: _, _ => rfl
  | _ :: _, [], _ => rfl
  | a :: r, b :: s, h => by
    rw [fitR_cons, Bool.and_eq_true] at h
    show joinV b a :: joinR s r = joinV a b :: joinR r s
    rw [joinV_comm _ _ h.1, joinR_comm r s h.2]
theorem belowR_no {r s : Row} (h : r.length ≠ s.length) : belowR r s = false := by
  unfold belowR
  rw [decide_eq_false h]
  rfl
theorem meetR : ∀ (c a b : Row), a.length = b.length → belowR c (shareR a b) = (belowR c a && belowR c b)
  | [], [], [], _ => rfl
  | c :: cs, [], [], _ => by
    rw [belowR_no (s := []) (by simp), belowR_no (by simp [shareR])]
    rfl
  | [], a :: as, b :: bs, _ => by
    rw [belowR_no (s := a :: as) (by simp), belowR_no (by simp [shareR])]
    rfl
  | c :: cs, a :: as, b :: bs, h => by
    have h : as.length = bs.length := by simpa using h
    show belowR (c :: cs) (shareV a b :: shareR as bs) = _
    rw [belowR_cons, belowR_cons, belowR_cons, meetV, meetR cs as bs h]
    cases belowV c a <;> cases belowV c b <;> cases belowR cs as <;> cases belowR cs bs <;> rfl
theorem joinRB : ∀ (a b r : Row), fitR a b = true → belowR (joinR a b) r = (belowR a r && belowR b r)
  | [], [], r, _ => by
    show belowR [] r = (belowR [] r && belowR [] r)
    rw [Bool.and_self]
  | [], b :: bs, _, h => by simp [fitR] at h
  | a :: as, [], _, h => by simp [fitR] at h
  | a :: as, b :: bs, [], h => by
    have := fitR_len h
    rw [belowR_no (r := a :: as) (by simp), belowR_no (by simp [joinR])]
    rfl
  | a :: as, b :: bs, r :: rs, h => by
    rw [fitR_cons, Bool.and_eq_true] at h
    show belowR (joinV a b :: joinR as bs) (r :: rs) = _
    rw [belowR_cons, belowR_cons, belowR_cons, joinVB _ _ _ h.1, joinRB as bs rs h.2]
    cases belowV a r <;> cases belowV b r <;> cases belowR as rs <;> cases belowR bs rs <;> rfl
theorem nofitR : ∀ (a b r : Row), a.length = b.length → fitR a b = false → (belowR a r && belowR b r) = false
  | [], [], _, _, h => by cases h
  | [], b :: bs, _, h, _ => by cases h
  | a :: as, [], _, h, _ => by cases h
  | a :: as, b :: bs, [], _, _ => by
    rw [belowR_no (r := a :: as) (by simp)]
    rfl
  | a :: as, b :: bs, r :: rs, hl, h => by
    have hl : as.length = bs.length := by simpa using hl
    rw [fitR_cons] at h
    rw [belowR_cons, belowR_cons]
    cases hv : fitV a b with
    | false =>
      have := nofitV a b r hv
      revert this
      cases belowV a r <;> cases belowV b r <;> cases belowR as rs <;> cases belowR bs rs <;> simp
    | true =>
      rw [hv, Bool.true_and] at h
      have := nofitR as bs rs hl h
      revert this
      cases belowV a r <;> cases belowV b r <;> cases belowR as rs <;> cases belowR bs rs <;> simp
end Kx

set_option Elab.async false
set_option linter.all false
set_option maxRecDepth 100000
set_option maxHeartbeats 4000000
namespace Kx
open PySem PySem.Spec PyProof.Rows L2
theorem cut_upd {b D : Addr} {H : Hp} {o : HO} (h : D ≠ b) : cut b (upd H D o) = upd (cut b H) D o := by
  funext a
  by_cases e : a = b
  · subst e
    rw [cut_at, upd_ne (Ne.symm h), cut_at]
  · rw [cut_ne e]
    by_cases e2 : a = D
    · subst e2
      rw [upd_same, upd_same]
    · rw [upd_ne e2, upd_ne e2, cut_ne e]
theorem cut_tup {B : BagId} {H : Hp} {p : Addr} {xs : List V} (hb : Bag B H) (h : H p = some (.tup xs)) : cut B.b H p = some (.tup xs) := cut_of h fun e => by
  obtain ⟨i, g, s, c, k1, r⟩ := hb.ex
  rw [e, k1] at h
  cases h
theorem iek_ext {ta tb : TE} {σ : L2.St} {H : Hp} {Q : VK} {p : Prop} [Decidable p] (Φ : V → Hp → Prop) (h1 : p → ∀ R : VK, (∀ v H', Φ v H' → R v H') → ta σ H R) (h2 : ¬ p → ∀ R : VK, (∀ v H', Φ v H' → R v H') → tb σ H R) (k : ∀ v H', Φ v H' → Q v H') : IeK ta tb σ Q (decide p) H :=
  iek (fun c => h1 c Q k) (fun c => h2 c Q k)
theorem Ext.mut {B : BagId} {H H' : Hp} {D : Addr} {o : HO} (hb : Bag B H) (e : Ext B H H') (hD : H D = none) : Ext B H (upd H' D o) := by
  have hDb : D ≠ B.b := hb.fresh hD
  refine ⟨fun a u h => ?_, ?_⟩
  · have h1 := e.same _ _ h
    obtain ⟨h2, h3⟩ := cut_some h1
    exact cut_of (by rw [upd_ne (ne_of_none (cut_some h).1 hD)]; exact h2) h3
  · obtain ⟨i, g, s, c, k1, r⟩ := e.bag.ex
    exact ⟨e.bag.ne, by rw [upd_ne (ne_of_none hb.items hD)]; exact e.bag.items, i, g, s, c, by rw [upd_ne (Ne.symm hDb)]; exact k1, r⟩
theorem gen_new {B : BagId} {H H' : Hp} {p : Addr} {o : HO} (hb : Bag B H) (hp : H p = none) (hh : upd H p o = H') : Ext B H H' ∧ cut B.b H' p = some o := by
  subst hh
  exact ⟨.new hb hp, cut_new hb hp⟩
/-! ### any value -/
end Kx

set_option Elab.async false
set_option linter.all false
set_option maxRecDepth 100000
set_option maxHeartbeats 4000000
namespace Kx
open PySem PySem.Spec PyProof.Rows L2
local macro_rules | `(tactic| walk_at "wp") => `(tactic| simp only [tSeq, tAsg, tC, tVar, tOp, tUn, rI, rI0, rU, tCB, tCons, tNil, tRet, tRetN, tDrop, tLst, tTup, tIf_eq, tIfS_eq, ifk_t, ifk_f, iek_t, iek_f, tTest, tB, tAnd, tOr, tNot, tAndV, tOrV, tNotV, tNext, tSl, rSlL, tPart, tNoPart, gName, gTup, gCons, gNil, gSub, rSetL, tCall, iList, iTup, iRng1, iRng2, rIxL, rIxT, rEq, rNe, scal_ii, scal_bb, scal_ss, scal_nx, scal_xn, RZ.iZipA, rIsiF, rIsiFT, vty_non, vty_bl, vty_int, vty_str, isa_list_list, isa_list_tuple, isa_list_bool, isa_list_int, isa_list_str, isa_tuple_list, isa_tuple_tuple, isa_tuple_bool, isa_tuple_int, isa_tuple_str, isa_dict_list, isa_dict_tuple, isa_dict_bool, isa_dict_int, isa_dict_str, isa_bool_list, isa_bool_tuple, isa_bool_bool, isa_bool_int, isa_bool_str, isa_int_list, isa_int_tuple, isa_int_bool, isa_int_int, isa_int_str, isa_str_list, isa_str_tuple, isa_str_bool, isa_str_int, isa_str_str, isa_non_list, isa_non_tuple, isa_non_bool, isa_non_int, isa_non_str, kc_bool, kc_int, kc_str, kc_list, kc_tuple, upd_same, HO.tup.injEq, HO.lst.injEq, V.ty.injEq, Bool.or_true, Bool.true_or, Bool.or_false, Bool.false_or, sz_0, sz_1, sz_2, sz_3, sz_4, sz_5, sz_6, sz_7, sz_8, sz_9, sz_10, sz_11, sz_12, sz_13, decide_true, decide_false, C8.tCut, tBM, tBM0, rAppend, rTupU, rRepU, rExtend, rReverse, StX.tStar, tLstRg, tRg1, tRg2, tCKw, tLc2_eq, rCatU, rSlU, rRepT, rRep, rCat, tChain, exists_eq, tPar, tCallN,  tDisp, tPairs, rSlS, rLenS, rLenV, rListOf, rTupOf, tM0, tM1, iStr, wipe, tYes, tFor_eq, tLc_eq, L2.start, cxOf, Cx.nox, Cx.wish, List.map_cons, List.map_nil, List.length_cons, List.length_nil, List.replicate, List.cons_append, List.nil_append, List.getElem?_cons_zero, List.getElem?_cons_succ, List.set_cons_zero, List.set_cons_succ, Option.some.injEq, and_assoc, exists_and_left, exists_and_right, exists_eq_left', exists_eq_left, exists_eq, exists_eq', true_and, and_true, Nat.reduceSub, Nat.reduceAdd, V.int.injEq, V.ref.injEq, V.bl.injEq, V.str.injEq, List.cons.injEq, decide_eq_true_eq, reduceCtorEq, false_or, or_false, and_false, false_and, exists_false, exists_const, if_true, if_false, Bool.true_eq_false, Bool.false_eq_true, ite_true, ite_false, Bool.not_true, Bool.not_false, decide_eq_false_iff_not, ne_eq])

section
variable {P : Program} {w : World} {K : PySem.W.Frag} {mg : Str → Option Value} {base : Heap}
/-! ### a row made from another one -/
def OkO (k : Int) (o : Option Int) : Prop := ∀ i, some i = o → 0 ≤ i ∧ i < k
def sp_kin (K : PySem.W.Frag) : Sp := fun vs H Q _ => ∃ (B : BagId) (a : Addr) (r : Row) (k : Int), vs = [.ref B.b, .ref a, .int k] ∧ Bag B H ∧ cut B.b H a = some (.tup (rowV r)) ∧ r.length ≤ 100 ∧ RowOk k r ∧ (k = 2 ∨ k = 3) ∧
  ∀ (t : Addr) (r' : Row) H', Ext B H H' → cut B.b H' t = some (.tup (rowV r')) → r'.length = r.length → RowOk k r' → Q (.ref t) H'
theorem ok_kin (T : Txt K mg) : FnOk P w K mg base CX0 3 T.l_kin.f T.l_kin.d ["_law_bag_here", "_law_row_here", "_law_base"] (sp_kin K) := by
  have G_l_of : FnOk P w K mg base CX0 2 T.l_of.f T.l_of.d ["_law_bag_here", "_law_things"] (sp_of K) := ok_of T
  have G_l_values : FnOk P w K mg base CX0 1 T.l_values.f T.l_values.d ["_law_base"] sp_values := ok_values T
  refine T.l_kin.F.ok sc_l_kin (fun vs H Q E h => ?_) (fun cdv A outer s H vs Q E hr h => ?_)
  · obtain ⟨B, a, r, k, rfl, _⟩ := h
    rfl
  obtain ⟨B, a, r, k, rfl, hB, ha, hr1, hro, hk, q⟩ := h
  refine ⟨_, (pss_one (ps_ret (pe_callTy call_tuple_ofU (by rfl) T.z_tuple (by decide +kernel) (pa_cons (pe_lc (own := [("_law_v", 3)]) (g := gName 3) rfl sc_l_kin.nd (pi_tup (pv 1)) (blkOk_by (own := [("_law_v", 3)]) (N := ["_law_bag_here", "_law_row_here", "_law_base", "_law_v"]) (sc := defScope s_l_kin) (by decide +kernel)) (fun _ _ _ _ _ => (pg_name (i := 3) sc_l_kin.nd rfl (.inl rfl))) (fun _ _ _ _ _ => pts_nil) (fun _ _ _ _ _ => (pe_call G_l_of (hr.mono (by omega)) (by rfl) T.l_of.g T.l_of.kp T.l_of.b .nil pass0 (pa_cons (pv 0) (pa_cons (pe_lst (pa_cons (pv 3) (pa_cons (pv 3) (pa_cons (pv 3) (pa_cons pe_non (pa_cons (pe_call G_l_of (hr.mono (by omega)) (by rfl) T.l_of.g T.l_of.kp T.l_of.b .nil pass0 (pa_cons (pv 0) (pa_cons (pe_call G_l_values (hr.mono (by omega)) (by rfl) T.l_values.g T.l_values.kp T.l_values.b .nil pass0 (pa_cons (pv 2) pa_nil)) pa_nil))) pa_nil)))))) pa_nil))))) pa_nil)))), ?_⟩
  have el : (rowV r).length = r.length := List.length_map _
  walk_at "wp"
  refine ⟨⟨_, .inl (.inl (cut_some ha).1)⟩, ?_⟩
  refine lcB (B := B) (walk_tup (xs := rowV r)) (fun i y => ∃ o : Option Int, y = valV o ∧ ∀ i, some i = o → 0 ≤ i ∧ i < k) hB (fun H' e => .inl (.inl (cut_some (e.same _ _ ha)).1)) (by omega) (fun i x H1 H2 R hi e1 hy c => ?_) (fun D H1 ys hD e1 hz hlen hall => ?_)
  · obtain ⟨rfl, hx⟩ := hy
    obtain ⟨v, hv, rfl⟩ := val_at hx
    walk_at "wp"
    refine ⟨k, rfl, hk, fun p H3 hp s3 hvv => ?_⟩
    have e3 : Ext B H2 H3 := .of_same e1.bag s3
    have v3 : cut B.b H3 p = some (.lst (valsOf k)) := cut_of hvv (e1.bag.fresh hp)
    refine ⟨B, p, valsOf k, rfl, e3.bag, .inl (.inl v3), (vals_pos hk).1, (vals_pos hk).2, fun u H4 hm e4 => ?_⟩
    intro p5 hp_p5; generalize hh_p5 : upd H4 p5 _ = H5; obtain ⟨x5, g5⟩ := gen_new e4.bag hp_p5 hh_p5; clear hh_p5
    refine ⟨B, p5, _, rfl, x5.bag, .inl (.inl g5), by simp, by simp, fun y H6 hm6 e6 => c _ _ (e3.trans (e4.trans (x5.trans e6))) ?_⟩
    simp only [List.mem_cons, List.not_mem_nil, or_false] at hm6
    have hvo : ∃ o : Option Int, valV v = valV o ∧ ∀ i, some i = o → 0 ≤ i ∧ i < k := ⟨v, rfl, fun i e => hro i (by rw [e]; exact List.mem_of_getElem? hv)⟩
    rcases hm6 with rfl | rfl | rfl | rfl | rfl
    · exact hvo
    · exact hvo
    · exact hvo
    · exact ⟨none, rfl, fun i e => by cases e⟩
    · exact mem_vals hk hm
  · obtain ⟨r', rfl, hro'⟩ := row_of hall
    have hz' := (cut_some hz).1
    refine ⟨_, rfl, _, .inl hz', fun p H2 s2 h2 => ?_⟩
    have x2 : Ext B H1 H2 := .of_same e1.bag s2
    have el' : (rowV r').length = r'.length := List.length_map _
    exact q p r' H2 (e1.trans x2) (cut_tup x2.bag h2) (by omega) hro'
theorem paired_eq {α : Type} {f : α → V} : ∀ {as : List α} {ys : List V}, Paired (fun a y => y = f a) as ys → ys = as.map f
  | _, _, .nil => rfl
  | _, _, .cons a b => by rw [a, paired_eq b]; rfl
/-! ### ranks as the law counts them -/
def lrV : Option Int → Int
  | none => 0
  | some i => i + 1
def lrR (r : Row) : List Int := r.map lrV
def unV (k : Int) : Option Int := if k = 0 then none else some (k - 1)
def sp_row_of : Sp := fun vs H Q _ => ∃ (a : Addr) (t : List Int), vs = [.ref a] ∧ H a = some (.tup (t.map V.int)) ∧ t.length ≤ 1000 ∧ ∀ p H', Same H H' → H' p = some (.tup (rowV (t.map unV))) → Q (.ref p) H'
theorem ok_row_of (T : Txt K mg) : FnOk P w K mg base CX0 1 T.l_row_of.f T.l_row_of.d ["_law_rank"] sp_row_of := by
  refine T.l_row_of.F.ok sc_l_row_of (fun vs H Q E h => ?_) (fun cdv A outer s H vs Q E hr h => ?_)
  · obtain ⟨a, t, rfl, _⟩ := h
    rfl
  obtain ⟨a, t, rfl, ha, hz, q⟩ := h
  refine ⟨_, (pss_one (ps_ret (pe_callTy call_tuple_ofU (by rfl) T.z_tuple (by decide +kernel) (pa_cons (pe_lc (own := [("_law_k", 1)]) (g := gName 1) rfl sc_l_row_of.nd (pi_tup (pv 0)) (blkOk_by (own := [("_law_k", 1)]) (N := ["_law_rank", "_law_k"]) (sc := defScope s_l_row_of) (by decide +kernel)) (fun _ _ _ _ _ => (pg_name (i := 1) sc_l_row_of.nd rfl (.inl rfl))) (fun _ _ _ _ _ => pts_nil) (fun _ _ _ _ _ => (pe_ifExp (pt_cmpR op_eq (pv 1) pe_int (nomark _)) pe_non (pe_op op_sub (pv 1) pe_int)))) pa_nil)))), ?_⟩
  walk_at "wp"
  refine ⟨⟨_, .inl (.inl ha)⟩, ?_⟩
  refine lcP (walk_tup (xs := t.map V.int)) (fun _ (o : Option Int) y => y = valV o) (fun _ _ _ _ _ h => h) (fun _ _ _ _ _ _ _ h => h) (t.map unV) (by rw [List.length_map, List.length_map]) (by rw [List.length_map]; omega) (fun H1 s => .inl (.inl (s _ _ ha))) (fun i x H1 H2 Rr b hb s hy c => ⟨rfl, ?_⟩) (fun D H1 ys hD s hz hp => ?_)
  · obtain ⟨rfl, hx⟩ := hy
    rw [List.getElem?_map] at hx hb
    obtain ⟨k, hk, rfl⟩ : ∃ k, t[i]? = some k ∧ x = .int k := by
      cases e : t[i]? with
      | none => rw [e] at hx; cases hx
      | some k => rw [e] at hx; cases hx; exact ⟨k, rfl, rfl⟩
    rw [hk] at hb
    obtain rfl : unV k = b := Option.some.inj hb
    have c2 := c (valV (unV k)) _ (Same.refl _) rfl
    unfold unV at c2
    walk_at "wp"
    by_cases h0 : k = 0
    · rw [if_pos h0] at c2
      subst h0
      walk_at "wp"
      exact c2
    · rw [if_neg h0] at c2
      rw [decide_eq_false h0]
      walk_at "wp"
      exact c2
  · have e : ys = rowV (t.map unV) := by
      unfold rowV
      exact paired_eq hp
    rw [e] at hz
    exact ⟨_, rfl, _, .inl hz, fun p H2 s2 h2 => q _ _ (s.trans s2) h2⟩
end
end Kx

set_option Elab.async false
set_option linter.all false
set_option maxRecDepth 100000
set_option maxHeartbeats 4000000
namespace Kx
open PySem PySem.Spec PyProof.Rows L2
local macro_rules | `(tactic| walk_at "wp") => `(tactic| simp only [tSeq, tAsg, tC, tVar, tOp, tUn, rI, rI0, rU, tCB, tCons, tNil, tRet, tRetN, tDrop, tLst, tTup, tIf_eq, tIfS_eq, ifk_t, ifk_f, iek_t, iek_f, tTest, tB, tAnd, tOr, tNot, tAndV, tOrV, tNotV, tNext, tSl, rSlL, tPart, tNoPart, gName, gTup, gCons, gNil, gSub, rSetL, tCall, iList, iTup, iRng1, iRng2, rIxL, rIxT, rEq, rNe, scal_ii, scal_bb, scal_ss, scal_nx, scal_xn, RZ.iZipA, rIsiF, rIsiFT, vty_non, vty_bl, vty_int, vty_str, isa_list_list, isa_list_tuple, isa_list_bool, isa_list_int, isa_list_str, isa_tuple_list, isa_tuple_tuple, isa_tuple_bool, isa_tuple_int, isa_tuple_str, isa_dict_list, isa_dict_tuple, isa_dict_bool, isa_dict_int, isa_dict_str, isa_bool_list, isa_bool_tuple, isa_bool_bool, isa_bool_int, isa_bool_str, isa_int_list, isa_int_tuple, isa_int_bool, isa_int_int, isa_int_str, isa_str_list, isa_str_tuple, isa_str_bool, isa_str_int, isa_str_str, isa_non_list, isa_non_tuple, isa_non_bool, isa_non_int, isa_non_str, kc_bool, kc_int, kc_str, kc_list, kc_tuple, upd_same, HO.tup.injEq, HO.lst.injEq, V.ty.injEq, Bool.or_true, Bool.true_or, Bool.or_false, Bool.false_or, sz_0, sz_1, sz_2, sz_3, sz_4, sz_5, sz_6, sz_7, sz_8, sz_9, sz_10, sz_11, sz_12, sz_13, decide_true, decide_false, C8.tCut, tBM, tBM0, rAppend, rTupU, rRepU, rExtend, rReverse, StX.tStar, tLstRg, tRg1, tRg2, tCKw, tLc2_eq, rCatU, rSlU, rRepT, rRep, rCat, tChain, exists_eq, tPar, tCallN,  tDisp, tPairs, rSlS, rLenS, rLenV, rListOf, rTupOf, tM0, tM1, iStr, wipe, tYes, tFor_eq, tLc_eq, L2.start, cxOf, Cx.nox, Cx.wish, List.map_cons, List.map_nil, List.length_cons, List.length_nil, List.replicate, List.cons_append, List.nil_append, List.getElem?_cons_zero, List.getElem?_cons_succ, List.set_cons_zero, List.set_cons_succ, Option.some.injEq, and_assoc, exists_and_left, exists_and_right, exists_eq_left', exists_eq_left, exists_eq, exists_eq', true_and, and_true, Nat.reduceSub, Nat.reduceAdd, V.int.injEq, V.ref.injEq, V.bl.injEq, V.str.injEq, List.cons.injEq, decide_eq_true_eq, reduceCtorEq, false_or, or_false, and_false, false_and, exists_false, exists_const, if_true, if_false, Bool.true_eq_false, Bool.false_eq_true, ite_true, ite_false, Bool.not_true, Bool.not_false, decide_eq_false_iff_not, ne_eq])

section
variable {P : Program} {w : World} {K : PySem.W.Frag} {mg : Str → Option Value} {base : Heap}
theorem paired_bools {H : Hp} {n : Nat} : ∀ (bs : List Bool), Paired (Is H n) (bs.map PyData.bool) (bs.map V.bl)
  | [] => .nil
  | b :: bs => .cons (by unfold Is; rfl) (paired_bools bs)
theorem is_bools {H : Hp} {a : Addr} {bs : List Bool} {n : Nat} (h : H a = some (.lst (bs.map V.bl))) (hl : bs.length ≤ 1000 := by simp) : Is H (n + 1) (.list (bs.map PyData.bool)) (.ref a) := by
  unfold Is
  exact ⟨by rw [List.length_map]; omega, a, _, rfl, h, paired_bools bs⟩
theorem is_list {H : Hp} {n : Nat} {a : Addr} {xs : List V} {ds : List PyData} (h : H a = some (.lst xs)) (hp : Paired (Is H n) ds xs) (hl : ds.length ≤ 5000) : Is H (n + 1) (.list ds) (.ref a) := by
  unfold Is
  exact ⟨hl, a, xs, rfl, h, hp⟩
theorem is_non {H : Hp} {n : Nat} : Is H n .none .non := by unfold Is; rfl
theorem is_bl {H : Hp} {n : Nat} {b : Bool} : Is H n (.bool b) (.bl b) := by unfold Is; rfl
def sp_pair (K : PySem.W.Frag) : Sp := fun vs H Q _ => ∃ (a b c : Addr) (r s : Row) (rs : List Row) (xs : List V), vs = [.ref a, .ref b, .ref c] ∧ H a = some (.tup (rowV r)) ∧ H b = some (.tup (rowV s)) ∧ H c = some (.lst xs) ∧ Paired (RowAt H) rs xs ∧ r.length ≤ 1000 ∧ s.length ≤ 1000 ∧ ∀ H', Same H H' → Q (.bl true) H'
theorem fit_join {H : Hp} {Kc : VK} {a b : Addr} {r s : Row} (ha : H a = some (.tup (rowV r))) (hb : H b = some (.tup (rowV s))) (hr : r.length ≤ 1000) (h : ∀ H1, Same H H1 → Kc (.bl (fitR r s)) H1) : if (r.length : Int) = (s.length : Int) then sp_fit [.ref a, .ref b] H Kc E0 else Kc (.bl false) H := by
  by_cases e : (r.length : Int) = (s.length : Int)
  · rw [if_pos e]
    exact ⟨a, b, r, s, rfl, ha, hb, hr, by omega, h⟩
  · rw [if_neg e]
    have z : fitR r s = false := by
      cases q : fitR r s with
      | false => rfl
      | true => exact absurd (congrArg (Nat.cast (R := Int)) (fitR_len q)) e
    rw [← z]
    exact h _ (Same.refl _)
theorem gen_same {H H' : Hp} {p : Addr} {o : HO} (hp : H p = none) (hh : upd H p o = H') : Same H H' ∧ H' p = some o := by
  subst hh
  exact ⟨same_upd hp, upd_same⟩
/-- what joined answers -/
def TopIs (H : Hp) (r s : Row) (v : V) : Prop := (fitR r s = false ∧ v = .non) ∨ (fitR r s = true ∧ ∃ p, v = .ref p ∧ H p = some (.tup (rowV (joinR r s))))
def topD (r s : Row) : PyData := if fitR r s then rowD (joinR r s) else .none
theorem TopIs.same {H H' : Hp} {r s : Row} {v : V} (h : TopIs H r s v) (e : Same H H') : TopIs H' r s v := by
  rcases h with h | ⟨h1, p, h2, h3⟩
  · exact .inl h
  · exact .inr ⟨h1, p, h2, e _ _ h3⟩
theorem joinR_len {r s : Row} (h : r.length = s.length) : (joinR r s).length = r.length := by
  unfold joinR
  rw [List.length_zipWith]
  omega
theorem shareR_len {r s : Row} (h : r.length = s.length) : (shareR r s).length = r.length := by
  unfold shareR
  rw [List.length_zipWith]
  omega
theorem TopIs.is {H : Hp} {n : Nat} {r s : Row} {v : V} (h : TopIs H r s v) (hr : r.length ≤ 1000) : Is H (n + 1) (topD r s) v := by
  unfold topD
  rcases h with ⟨h, rfl⟩ | ⟨h1, p, rfl, h3⟩
  · rw [h]
    exact is_non
  · rw [h1]
    exact is_row h3 (by rw [joinR_len (fitR_len h1)]; exact hr)
theorem topD_comm (r s : Row) : topD s r = topD r s := by
  unfold topD
  rw [fitR_comm]
  cases h : fitR r s with
  | false => rfl
  | true => rw [joinR_comm r s h]
theorem topD_self (r : Row) : topD r r = rowD r := by
  unfold topD
  rw [fitR_self, joinR_self]
  rfl
theorem due_join {H : Hp} {Kc : VK} {a b : Addr} {r s : Row} {σ : L2.St} (ha : H a = some (.tup (rowV r))) (hb : H b = some (.tup (rowV s))) (hr : r.length ≤ 1000) (h : ∀ v H1, Same H H1 → TopIs H1 r s v → Kc v H1) :
    IeK (tCall (sp_two joinR) [] E0 (tCons (tVar 0) (tCons (tVar 1) tNil))) (tC V.non) (some (.ref a) :: some (.ref b) :: σ) Kc (fitR r s) H := by
  cases hf : fitR r s with
  | false =>
    walk_at "wp"
    exact h _ _ (Same.refl _) (.inl ⟨hf, rfl⟩)
  | true =>
    walk_at "wp"
    exact ⟨a, b, r, s, rfl, ha, hb, hr, fitR_len hf, fun p H1 s1 h1 => h _ _ s1 (.inr ⟨hf, p, rfl, h1⟩)⟩
theorem joined_top {H : Hp} {Kc : VK} {a b : Addr} {r s : Row} (ha : H a = some (.tup (rowV r))) (hb : H b = some (.tup (rowV s))) (hr : r.length ≤ 1000) (hs : s.length ≤ 1000) (h : ∀ v H1, Same H H1 → TopIs H1 r s v → Kc v H1) : sp_joined [.ref a, .ref b] H Kc E0 :=
  ⟨a, b, r, s, rfl, ha, hb, hr, hs, fun hf H1 s1 => h _ _ s1 (.inl ⟨hf, rfl⟩), fun hf p H1 s1 h1 => h _ _ s1 (.inr ⟨hf, p, rfl, h1⟩)⟩
theorem two_preds {f : Row → Row → Bool} {H : Hp} {Kc : VK} {a b a' b' : Addr} {r t r' t' : Row} (ha : H a = some (.tup (rowV r))) (hb : H b = some (.tup (rowV t))) (ha' : H a' = some (.tup (rowV r'))) (hb' : H b' = some (.tup (rowV t'))) (h1 : r.length ≤ 1000) (h2 : t.length ≤ 1000) (h3 : r'.length ≤ 1000) (h4 : t'.length ≤ 1000)
    (h : ∀ H1, Same H H1 → Kc (.bl (f r t && f r' t')) H1) : sp_pred f [.ref a, .ref b] H (fun x H1 => ∃ c, x = V.bl c ∧ if c = true then sp_pred f [.ref a', .ref b'] H1 Kc E0 else Kc (.bl false) H1) E0 := by
  refine ⟨a, b, r, t, rfl, ha, hb, h1, h2, fun H1 s1 => ⟨_, rfl, ?_⟩⟩
  cases e : f r t with
  | true =>
    rw [if_pos rfl]
    refine ⟨a', b', r', t', rfl, s1 _ _ ha', s1 _ _ hb', h3, h4, fun H2 s2 => ?_⟩
    have := h H2 (s1.trans s2)
    rw [e, Bool.true_and] at this
    exact this
  | false =>
    rw [if_neg Bool.false_ne_true]
    have := h H1 s1
    rw [e, Bool.false_and] at this
    exact this
theorem ok_pair_so (T : Txt K mg) : FnOk P w K mg base CX0 5 T.l_pair_so.f T.l_pair_so.d ["_law_one", "_law_two", "_law_all_rows"] (sp_pair K) := by
  have G_is_below : FnOk P w K mg base CX0 1 T.is_below.f T.is_below.d ["one", "other"] (sp_pred belowR) := ok_is_below T
  have G_l_below : FnOk P w K mg base CX0 1 T.l_below.f T.l_below.d ["_law_one", "_law_two"] (sp_pred belowR) := ok_l_below T
  have G_rows_fit : FnOk P w K mg base CX0 1 T.rows_fit.f T.rows_fit.d ["one", "other"] (sp_pred fitR) := ok_rows_fit T
  have G_l_fit : FnOk P w K mg base CX0 1 T.l_fit.f T.l_fit.d ["_law_one", "_law_two"] sp_fit := ok_l_fit T
  have G_joined : FnOk P w K mg base CX0 2 T.joined.f T.joined.d ["one", "other"] sp_joined := ok_joined T
  have G_l_join : FnOk P w K mg base CX0 1 T.l_join.f T.l_join.d ["_law_one", "_law_two"] (sp_two joinR) := ok_l_join T
  have G_common : FnOk P w K mg base CX0 1 T.common.f T.common.d ["one", "other"] (sp_two shareR) := ok_common T
  have G_l_shared : FnOk P w K mg base CX0 1 T.l_shared.f T.l_shared.d ["_law_one", "_law_two"] (sp_two shareR) := ok_l_shared T
  have G_l_like : FnOk P w K mg base CX0 3 T.l_like.f T.l_like.d ["_law_found", "_law_due"] (sp_like 2) := ok_like T 3
  refine T.l_pair_so.F.ok sc_l_pair_so (fun vs H Q E h => ?_) (fun cdv A outer s H vs Q E hr h => ?_)
  · obtain ⟨a, b, c, r, s, rs, xs, rfl, _⟩ := h
    rfl
  obtain ⟨a, b, c, r, s', rs, xs, rfl, ha, hb, hc, hrs, hr1, hs1, q⟩ := h
  refine ⟨_, (pss_cons (ps_set (i := 3) sc_l_pair_so.nd rfl (.inl rfl) (pe_and (pe_cmpR op_eq (pe_callB call_len_seq (by rfl) T.z_len PySem.boot_len (pa_cons (pv 0) pa_nil)) (pe_callB call_len_seq (by rfl) T.z_len PySem.boot_len (pa_cons (pv 1) pa_nil)) (nomark _)) (pe_one (pe_call G_l_fit (hr.mono (by omega)) (by rfl) T.l_fit.g T.l_fit.kp T.l_fit.b .nil pass0 (pa_cons (pv 0) (pa_cons (pv 1) pa_nil))))))
      (pss_cons (ps_if (pt_not (pt_val (pe_call G_l_like (hr.mono (by omega)) (by rfl) T.l_like.g T.l_like.kp T.l_like.b .nil pass0 (pa_cons (pe_lst (pa_cons (pe_call G_is_below (hr.mono (by omega)) (by rfl) T.is_below.g T.is_below.kp T.is_below.b .nil pass0 (pa_cons (pv 0) (pa_cons (pv 1) pa_nil))) (pa_cons (pe_call G_is_below (hr.mono (by omega)) (by rfl) T.is_below.g T.is_below.kp T.is_below.b .nil pass0 (pa_cons (pv 1) (pa_cons (pv 0) pa_nil))) pa_nil))) (pa_cons (pe_lst (pa_cons (pe_call G_l_below (hr.mono (by omega)) (by rfl) T.l_below.g T.l_below.kp T.l_below.b .nil pass0 (pa_cons (pv 0) (pa_cons (pv 1) pa_nil))) (pa_cons (pe_call G_l_below (hr.mono (by omega)) (by rfl) T.l_below.g T.l_below.kp T.l_below.b .nil pass0 (pa_cons (pv 1) (pa_cons (pv 0) pa_nil))) pa_nil))) pa_nil)))))
      (pss_one (ps_ret pe_bl))
      pss_nil)
      (pss_cons (ps_if (pt_not (pt_val (pe_call G_l_like (hr.mono (by omega)) (by rfl) T.l_like.g T.l_like.kp T.l_like.b .nil pass0 (pa_cons (pe_lst (pa_cons (pe_call G_rows_fit (hr.mono (by omega)) (by rfl) T.rows_fit.g T.rows_fit.kp T.rows_fit.b .nil pass0 (pa_cons (pv 0) (pa_cons (pv 1) pa_nil))) (pa_cons (pe_call G_rows_fit (hr.mono (by omega)) (by rfl) T.rows_fit.g T.rows_fit.kp T.rows_fit.b .nil pass0 (pa_cons (pv 1) (pa_cons (pv 0) pa_nil))) (pa_cons (pe_call G_rows_fit (hr.mono (by omega)) (by rfl) T.rows_fit.g T.rows_fit.kp T.rows_fit.b .nil pass0 (pa_cons (pv 0) (pa_cons (pv 0) pa_nil))) pa_nil)))) (pa_cons (pe_lst (pa_cons (pv 3) (pa_cons (pv 3) (pa_cons pe_bl pa_nil)))) pa_nil)))))
      (pss_one (ps_ret pe_bl))
      pss_nil)
      (pss_cons (ps_set (i := 4) sc_l_pair_so.nd rfl (.inl rfl) (pe_ifExp (pt_val (pv 3)) (pe_call G_l_join (hr.mono (by omega)) (by rfl) T.l_join.g T.l_join.kp T.l_join.b .nil pass0 (pa_cons (pv 0) (pa_cons (pv 1) pa_nil))) pe_non))
      (pss_cons (ps_set (i := 5) sc_l_pair_so.nd rfl (.inl rfl) (pe_call G_joined (hr.mono (by omega)) (by rfl) T.joined.g T.joined.kp T.joined.b .nil pass0 (pa_cons (pv 0) (pa_cons (pv 1) pa_nil))))
      (pss_cons (ps_if (pt_not (pt_val (pe_call G_l_like (hr.mono (by omega)) (by rfl) T.l_like.g T.l_like.kp T.l_like.b .nil pass0 (pa_cons (pe_lst (pa_cons (pv 5) (pa_cons (pe_call G_joined (hr.mono (by omega)) (by rfl) T.joined.g T.joined.kp T.joined.b .nil pass0 (pa_cons (pv 1) (pa_cons (pv 0) pa_nil))) (pa_cons (pe_call G_joined (hr.mono (by omega)) (by rfl) T.joined.g T.joined.kp T.joined.b .nil pass0 (pa_cons (pv 0) (pa_cons (pv 0) pa_nil))) pa_nil)))) (pa_cons (pe_lst (pa_cons (pv 4) (pa_cons (pv 4) (pa_cons (pv 0) pa_nil)))) pa_nil)))))
      (pss_one (ps_ret pe_bl))
      pss_nil)
      (pss_cons (ps_if (pt_cmpR op_ne (pe_callB call_len_seq (by rfl) T.z_len PySem.boot_len (pa_cons (pv 0) pa_nil)) (pe_callB call_len_seq (by rfl) T.z_len PySem.boot_len (pa_cons (pv 1) pa_nil)) (nomark _))
      (pss_one (ps_ret pe_bl))
      pss_nil)
      (pss_cons (ps_set (i := 6) sc_l_pair_so.nd rfl (.inl rfl) (pe_call G_common (hr.mono (by omega)) (by rfl) T.common.g T.common.kp T.common.b .nil pass0 (pa_cons (pv 0) (pa_cons (pv 1) pa_nil))))
      (pss_cons (ps_if (pt_not (pt_val (pe_call G_l_like (hr.mono (by omega)) (by rfl) T.l_like.g T.l_like.kp T.l_like.b .nil pass0 (pa_cons (pe_lst (pa_cons (pv 6) (pa_cons (pe_call G_common (hr.mono (by omega)) (by rfl) T.common.g T.common.kp T.common.b .nil pass0 (pa_cons (pv 1) (pa_cons (pv 0) pa_nil))) (pa_cons (pe_call G_common (hr.mono (by omega)) (by rfl) T.common.g T.common.kp T.common.b .nil pass0 (pa_cons (pv 1) (pa_cons (pv 1) pa_nil))) pa_nil)))) (pa_cons (pe_op op_cat (pe_op op_rep (pe_lst (pa_cons (pe_call G_l_shared (hr.mono (by omega)) (by rfl) T.l_shared.g T.l_shared.kp T.l_shared.b .nil pass0 (pa_cons (pv 0) (pa_cons (pv 1) pa_nil))) pa_nil)) pe_int) (pe_lst (pa_cons (pv 1) pa_nil))) pa_nil)))))
      (pss_one (ps_ret pe_bl))
      pss_nil)
      (pss_cons (ps_for PassesOwn.never rfl (pi_list (pv 2)) (pg_name (i := 7) sc_l_pair_so.nd rfl (.inl rfl))
      (pss_cons (ps_set (i := 8) sc_l_pair_so.nd rfl (.inl rfl) (pe_and (pe_call G_l_below (hr.mono (by omega)) (by rfl) T.l_below.g T.l_below.kp T.l_below.b .nil pass0 (pa_cons (pv 0) (pa_cons (pv 7) pa_nil))) (pe_one (pe_call G_l_below (hr.mono (by omega)) (by rfl) T.l_below.g T.l_below.kp T.l_below.b .nil pass0 (pa_cons (pv 1) (pa_cons (pv 7) pa_nil))))))
      (pss_cons (ps_if (pt_not (pt_val (pe_call G_l_like (hr.mono (by omega)) (by rfl) T.l_like.g T.l_like.kp T.l_like.b .nil pass0 (pa_cons (pe_call G_is_below (hr.mono (by omega)) (by rfl) T.is_below.g T.is_below.kp T.is_below.b .nil pass0 (pa_cons (pv 7) (pa_cons (pv 6) pa_nil))) (pa_cons (pe_and (pe_call G_l_below (hr.mono (by omega)) (by rfl) T.l_below.g T.l_below.kp T.l_below.b .nil pass0 (pa_cons (pv 7) (pa_cons (pv 0) pa_nil))) (pe_one (pe_call G_l_below (hr.mono (by omega)) (by rfl) T.l_below.g T.l_below.kp T.l_below.b .nil pass0 (pa_cons (pv 7) (pa_cons (pv 1) pa_nil))))) pa_nil)))))
      (pss_one (ps_ret pe_bl))
      pss_nil)
      (pss_one (ps_if (PW.pt (pw_or (PW.pt (pw_and (pt_cmpR op_isN (pv 5) pe_non (nomark _)) (pw_and1 (pt_val (pv 8))))) (pw_or1 (PW.pt (pw_and (pt_cmpR op_notN (pv 5) pe_non (nomark _)) (pw_and1 (pt_not (pt_val (pe_call G_l_like (hr.mono (by omega)) (by rfl) T.l_like.g T.l_like.kp T.l_like.b .nil pass0 (pa_cons (pe_call G_is_below (hr.mono (by omega)) (by rfl) T.is_below.g T.is_below.kp T.is_below.b .nil pass0 (pa_cons (pv 5) (pa_cons (pv 7) pa_nil))) (pa_cons (pv 8) pa_nil)))))))))))
      (pss_one (ps_ret pe_bl))
      pss_nil)))))
      (pss_one (ps_ret pe_bl)))))))))))), ?_⟩
  have el : (rowV r).length = r.length := List.length_map _
  have es : (rowV s').length = s'.length := List.length_map _
  walk_at "wp"
  refine ⟨rowV r, .inr (.inl (.inl ha)), rowV s', .inr (.inl (.inl hb)), ?_⟩
  rw [el, es]
  refine fit_join ha hb hr1 fun H1 s1 => ?_
  have ha := s1 _ _ ha
  have hb := s1 _ _ hb
  refine ⟨a, b, r, s', rfl, ha, hb, hr1, hs1, fun H2 s2 => ?_⟩
  have ha := s2 _ _ ha
  have hb := s2 _ _ hb
  refine ⟨b, a, s', r, rfl, hb, ha, hs1, hr1, fun H3 s3 => ?_⟩
  have ha := s3 _ _ ha
  have hb := s3 _ _ hb
  intro p4 hp4
  have s4 := same_upd (o := .lst [.bl (belowR r s'), .bl (belowR s' r)]) hp4
  have hp4' : (upd H3 p4 (.lst [.bl (belowR r s'), .bl (belowR s' r)])) p4 = some (.lst ([belowR r s', belowR s' r].map V.bl)) := upd_same
  have ha := s4 _ _ ha
  have hb := s4 _ _ hb
  refine ⟨a, b, r, s', rfl, ha, hb, hr1, hs1, fun H5 s5 => ?_⟩
  have ha := s5 _ _ ha
  have hb := s5 _ _ hb
  refine ⟨b, a, s', r, rfl, hb, ha, hs1, hr1, fun H6 s6 => ?_⟩
  have ha := s6 _ _ ha
  have hb := s6 _ _ hb
  intro p7 hp7
  have s7 := same_upd (o := .lst [.bl (belowR r s'), .bl (belowR s' r)]) hp7
  refine ⟨_, _, _, rfl, is_bools (bs := [belowR r s', belowR s' r]) (s7 _ _ (s6 _ _ (s5 _ _ hp4'))), is_bools (bs := [belowR r s', belowR s' r]) upd_same, fun H8 s8 => ?_⟩
  have t8 := s1.trans (s2.trans (s3.trans (s4.trans (s5.trans (s6.trans (s7.trans s8))))))
  have ha := s8 _ _ (s7 _ _ ha)
  have hb := s8 _ _ (s7 _ _ hb)
  clear s1 s2 s3 s4 s5 s6 s7 s8 hp4 hp4' hp7
  walk_at "wp"
  refine ⟨a, b, r, s', rfl, ha, hb, hr1, hs1, fun H2 s2 => ?_⟩
  have ha := s2 _ _ ha
  have hb := s2 _ _ hb
  refine ⟨b, a, s', r, rfl, hb, ha, hs1, hr1, fun H3 s3 => ?_⟩
  have ha := s3 _ _ ha
  have hb := s3 _ _ hb
  refine ⟨a, a, r, r, rfl, ha, ha, hr1, hr1, fun H4 s4 => ?_⟩
  rw [fitR_comm r s', fitR_self r]
  intro p5 hp5 p6 hp6
  have ha := s4 _ _ ha
  have hb := s4 _ _ hb
  refine ⟨_, _, _, rfl, is_bools (bs := [fitR r s', fitR r s', true]) ((same_upd hp6) _ _ upd_same), is_bools (bs := [fitR r s', fitR r s', true]) upd_same, fun H7 s7 => ?_⟩
  have u7 := (same_upd hp5).trans ((same_upd hp6).trans s7)
  have ha := u7 _ _ ha
  have hb := u7 _ _ hb
  have t7 := t8.trans (s2.trans (s3.trans (s4.trans u7)))
  clear s2 s3 s4 u7 s7 hp5 hp6 t8
  walk_at "wp"
  refine due_join ha hb hr1 fun due H9 s9 hdue => ?_
  have ha := s9 _ _ ha
  have hb := s9 _ _ hb
  refine joined_top ha hb hr1 hs1 fun top H10 s10 htop => ?_
  have ha := s10 _ _ ha
  have hb := s10 _ _ hb
  refine joined_top hb ha hs1 hr1 fun v1 H11 s11 hv1 => ?_
  have ha := s11 _ _ ha
  have hb := s11 _ _ hb
  refine joined_top ha ha hr1 hr1 fun v2 H12 s12 hv2 => ?_
  have ha := s12 _ _ ha
  have hb := s12 _ _ hb
  intro p13 hp_p13; generalize hh_p13 : upd H12 p13 _ = H13; obtain ⟨s13, g13⟩ := gen_same hp_p13 hh_p13; clear hh_p13
  intro p14 hp_p14; generalize hh_p14 : upd H13 p14 _ = H14; obtain ⟨s14, g14⟩ := gen_same hp_p14 hh_p14; clear hh_p14
  have e12 := s11.trans (s12.trans (s13.trans s14))
  refine ⟨_, _, _, rfl, is_list (s14 _ _ g13) (.cons ((htop.same e12).is hr1) (.cons (by rw [← topD_comm]; exact (hv1.same (s12.trans (s13.trans s14))).is hs1) (.cons (by rw [← topD_self]; exact (hv2.same (s13.trans s14)).is hr1) .nil))) (by simp), is_list g14 (.cons ((hdue.same (s10.trans e12)).is hr1) (.cons ((hdue.same (s10.trans e12)).is hr1) (.cons (is_row (s14 _ _ (s13 _ _ ha)) hr1) .nil))) (by simp), fun H15 s15 => ?_⟩
  have u15 := s13.trans (s14.trans s15)
  have ha := u15 _ _ ha
  have hb := u15 _ _ hb
  have htop := htop.same (s11.trans (s12.trans u15))
  have t15 := t7.trans (s9.trans (s10.trans (s11.trans (s12.trans u15))))
  clear hv1 hv2 s9 s10 s11 s12 s13 s14 s15 u15 e12 hdue t7 g13 g14
  walk_at "wp"
  refine ⟨rowV r, .inr (.inl (.inl ha)), rowV s', .inr (.inl (.inl hb)), ?_⟩
  rw [el, es]
  by_cases hl : r.length = s'.length
  · rw [decide_eq_true (by omega : (r.length : Int) = (s'.length : Int))]
    walk_at "wp"
    refine ⟨a, b, r, s', rfl, ha, hb, hr1, hl, fun low H16 s16 hlow => ?_⟩
    have ha := s16 _ _ ha
    have hb := s16 _ _ hb
    refine ⟨b, a, s', r, rfl, hb, ha, hs1, hl.symm, fun l2 H17 s17 hl2 => ?_⟩
    have ha := s17 _ _ ha
    have hb := s17 _ _ hb
    refine ⟨b, b, s', s', rfl, hb, hb, hs1, rfl, fun l3 H18 s18 hl3 => ?_⟩
    have ha := s18 _ _ ha
    have hb := s18 _ _ hb
    rw [shareR_comm] at hl2
    rw [shareR_self] at hl3
    intro p19 hp_p19; generalize hh_p19 : upd H18 p19 _ = H19; obtain ⟨s19, g19⟩ := gen_same hp_p19 hh_p19; clear hh_p19
    have ha := s19 _ _ ha
    have hb := s19 _ _ hb
    refine ⟨a, b, r, s', rfl, ha, hb, hr1, hl, fun l4 H20 s20 hl4 => ?_⟩
    have ha := s20 _ _ ha
    have hb := s20 _ _ hb
    intro p21 hp_p21; generalize hh_p21 : upd H20 p21 _ = H21; obtain ⟨s21, g21⟩ := gen_same hp_p21 hh_p21; clear hh_p21
    refine ⟨by decide, by decide, by decide, ?_⟩
    intro p22 hp_p22; generalize hh_p22 : upd H21 p22 _ = H22; obtain ⟨s22, g22⟩ := gen_same hp_p22 hh_p22; clear hh_p22
    intro p23 hp_p23; generalize hh_p23 : upd H22 p23 _ = H23; obtain ⟨s23, g23⟩ := gen_same hp_p23 hh_p23; clear hh_p23
    refine ⟨_, s23 _ _ g22, (by show 3 ≤ sizeLine; decide), ?_⟩
    intro p24 hp_p24; generalize hh_p24 : upd H23 p24 _ = H24; obtain ⟨s24, g24⟩ := gen_same hp_p24 hh_p24; clear hh_p24
    have e24 := s21.trans (s22.trans (s23.trans s24))
    have hsl : (shareR r s').length ≤ 1000 := by rw [shareR_len hl]; exact hr1
    refine ⟨_, _, _, rfl, is_list ((s20.trans e24) _ _ g19) (.cons (is_row ((s17.trans (s18.trans (s19.trans (s20.trans e24)))) _ _ hlow) hsl) (.cons (is_row ((s18.trans (s19.trans (s20.trans e24))) _ _ hl2) hsl) (.cons (is_row ((s19.trans (s20.trans e24)) _ _ hl3) hs1) .nil))) (by simp),
      is_list g24 (.cons (is_row (e24 _ _ hl4) hsl) (.cons (is_row (e24 _ _ hl4) hsl) (.cons (is_row (e24 _ _ hb) hs1) .nil))) (by simp), fun H25 s25 => ?_⟩
    have e25 := e24.trans s25
    have ha := e25 _ _ ha
    have hb := e25 _ _ hb
    have hlow := (s17.trans (s18.trans (s19.trans (s20.trans e25)))) _ _ hlow
    have u25 := s16.trans (s17.trans (s18.trans (s19.trans (s20.trans e25))))
    have htop := htop.same u25
    have t25 := t15.trans u25
    clear s16 s17 s18 s19 s20 s21 s22 s23 s24 s25 e24 e25 u25 t15 hl2 hl3 hl4 g19 g21 g22 g23 g24
    walk_at "wp"
    have hc := t25 _ _ hc
    have hrs := paired_mono (fun _ _ h => RowAt.same t25 h) hrs
    refine ⟨⟨_, .inl (.inl hc)⟩, ?_⟩
    obtain ⟨Pv, hPv⟩ : ∃ M : L2.St → Hp → Prop, ∀ σ H2, M σ H2 ↔ ∃ (z7 z8 : Option V), σ = [some (.ref a), some (.ref b), some (.ref c), some (.bl (fitR r s')), some due, some top, some (.ref low), z7, z8] ∧ Same H25 H2 := ⟨_, fun _ _ => Iff.rfl⟩
    refine lp_it (walk_list (xs := xs)) (fun _ => Pv) ((hPv _ _).mpr ⟨_, _, rfl, Same.refl _⟩) (fun _ σ H2 _ h => ?_) (fun i x σ H2 H3 hi h hy => ?_) (fun σ H2 h => ?_)
    · obtain ⟨z7, z8, rfl, s26⟩ := (hPv _ _).mp h
      exact .inl (.inl (s26 _ _ hc))
    · obtain ⟨z7, z8, rfl, s26⟩ := (hPv _ _).mp h
      obtain ⟨rfl, hx⟩ := hy
      obtain ⟨q0, hq0, hxq⟩ := paired_two hrs hx
      obtain ⟨d, rfl, hd, hq1⟩ := hxq.same s26
      have ha := s26 _ _ ha
      have hb := s26 _ _ hb
      have hlow := s26 _ _ hlow
      have htop := htop.same s26
      walk_at "wp"
      refine two_preds ha hd hb hd hr1 hq1 hs1 hq1 fun H4 s4 => ?_
      have hd := s4 _ _ hd
      have hlow := s4 _ _ hlow
      refine ⟨d, low, q0, shareR r s', rfl, hd, hlow, hq1, hsl, fun H5 s5 => ?_⟩
      have hd := s5 _ _ hd
      have ha := s5 _ _ (s4 _ _ ha)
      have hb := s5 _ _ (s4 _ _ hb)
      have htop := htop.same (s4.trans s5)
      refine two_preds hd ha hd hb hq1 hr1 hq1 hs1 fun H6 s6 => ?_
      rw [← meetR q0 r s' hl]
      have hd := s6 _ _ hd
      have htop := htop.same s6
      have t6 := s26.trans (s4.trans (s5.trans s6))
      refine ⟨_, _, _, rfl, is_bl, is_bl, fun H7 s7 => ?_⟩
      have hd := s7 _ _ hd
      have htop := htop.same s7
      have t7 := t6.trans s7
      walk_at "wp"
      rcases htop with ⟨hf, rfl⟩ | ⟨hf, p, rfl, hp⟩
      · have nf := nofitR r s' q0 hl hf
        rw [nf]
        walk_at "wp"
        exact (hPv _ _).mpr ⟨_, _, rfl, t7⟩
      · walk_at "wp"
        have hjl : (joinR r s').length ≤ 1000 := by rw [joinR_len hl]; exact hr1
        refine ⟨p, d, joinR r s', q0, rfl, hp, hd, hjl, hq1, fun H8 s8 => ?_⟩
        rw [joinRB r s' q0 hf]
        refine ⟨_, _, _, rfl, is_bl, is_bl, fun H9 s9 => ?_⟩
        walk_at "wp"
        exact (hPv _ _).mpr ⟨_, _, rfl, t7.trans (s8.trans s9)⟩
    · obtain ⟨z7, z8, rfl, s26⟩ := (hPv _ _).mp h
      walk_at "wp"
      exact q _ (t25.trans s26)
  · rw [decide_eq_false (by omega : ¬ (r.length : Int) = (s'.length : Int))]
    walk_at "wp"
    exact q _ t15
end
end Kx

set_option Elab.async false
set_option linter.all false
set_option maxRecDepth 100000
set_option maxHeartbeats 4000000
namespace Kx
open PySem PySem.Spec PyProof.Rows L2
/-! ### the law's ranks and the program's -/
theorem toks_shift (c : Int) : ∀ (s t : List Int), PyProof.Rows.lexLt PyProof.Rows.itemOrd (PySem.W.keyToksAll ((s.map (· + c)).map PyData.int)) (PySem.W.keyToksAll ((t.map (· + c)).map PyData.int)) = PyProof.Rows.lexLt PyProof.Rows.itemOrd (PySem.W.keyToksAll (s.map PyData.int)) (PySem.W.keyToksAll (t.map PyData.int))
  | [], [] => rfl
  | [], b :: t => by
    simp only [List.map_nil, List.map_cons, PySem.W.keyToksAll]
    rw [PyProof.Rows.lex_diff (O := PyProof.Rows.itemOrd) (by simp), PyProof.Rows.lex_diff (O := PyProof.Rows.itemOrd) (by simp)]
  | a :: s, [] => by
    simp only [List.map_nil, List.map_cons, PySem.W.keyToksAll]
    rw [PyProof.Rows.lex_diff (O := PyProof.Rows.itemOrd) (by simp), PyProof.Rows.lex_diff (O := PyProof.Rows.itemOrd) (by simp)]
  | a :: s, b :: t => by
    simp only [List.map_cons]
    by_cases h : a = b
    · subst h
      rw [PySem.W.dataLt_all_yes (by simp [PySem.W.alike]) (by simp [PyData.eqv]), PySem.W.dataLt_all_yes (by simp [PySem.W.alike]) (by simp [PyData.eqv]), toks_shift c s t]
    · rw [PySem.W.dataLt_all_no (by simp [PySem.W.alike]) (by simp [PyData.eqv, h]), PySem.W.dataLt_all_no (by simp [PySem.W.alike]) (by simp [PyData.eqv, h]), PySem.W.dataLt_int, PySem.W.dataLt_int]
      exact decide_eq_decide.mpr (by omega)
theorem lrR_rank (r : Row) : lrR r = (rankR r).map (· + 1) := by
  unfold lrR rankR
  rw [List.map_map]
  refine List.map_congr_left fun o _ => ?_
  cases o with
  | none => rfl
  | some i => rfl
theorem le_same (a b : Row) : PySem.W.dataLe false (fun r => encN (rankR r)) a b = leN (lrR a) (lrR b) := by
  show (!PySem.W.dataLt (encN (rankR b)) (encN (rankR a))) = !PySem.W.dataLt (encN (lrR b)) (encN (lrR a))
  unfold encN
  rw [PySem.W.dataLt_tuple, PySem.W.dataLt_tuple, lrR_rank, lrR_rank, toks_shift]
theorem un_lr {k : Int} {r : Row} (h : RowOk k r) : (lrR r).map unV = r := by
  unfold lrR
  rw [List.map_map]
  refine (List.map_congr_left (g := id) fun o ho => ?_).trans (List.map_id _)
  cases o with
  | none => rfl
  | some i =>
    have := h i ho
    show (if i + 1 = 0 then none else some (i + 1 - 1)) = some i
    rw [if_neg (by omega)]
    congr 1
    omega
theorem ordR_law {k : Int} {rs : List Row} (h : ∀ r ∈ rs, RowOk k r) : ((rs.map lrR).mergeSort leN).map (fun t => t.map unV) = ordR rs := by
  have e : (rs.mergeSort (PySem.W.dataLe false fun r => encN (rankR r))).map lrR = (rs.map lrR).mergeSort leN := List.map_mergeSort fun a _ b _ => le_same a b
  rw [← e, List.map_map]
  refine (List.map_congr_left (g := id) fun r hr => ?_).trans (List.map_id _)
  exact un_lr (h r (List.mem_mergeSort.mp hr))
theorem ordR_twice (rs : List Row) : ordR (ordR rs) = ordR rs := by
  have t := PySem.W.sortLe_total (PyProof.Rows.listOrd PyProof.Rows.itemOrd) false fun r : Row => PySem.W.keyToks (encN (rankR r))
  exact List.mergeSort_of_pairwise (PySem.W.sort_pairwise t rs)
theorem ordR_mem {rs : List Row} {r : Row} (h : r ∈ ordR rs) : r ∈ rs := List.mem_mergeSort.mp h
theorem ordR_len (rs : List Row) : (ordR rs).length = rs.length := List.length_mergeSort _
end Kx

set_option Elab.async false
set_option linter.all false
set_option maxRecDepth 100000
set_option maxHeartbeats 4000000
namespace Kx
open PySem PySem.Spec PyProof.Rows L2
local macro_rules | `(tactic| walk_at "wp") => `(tactic| simp only [tSeq, tAsg, tC, tVar, tOp, tUn, rI, rI0, rU, tCB, tCons, tNil, tRet, tRetN, tDrop, tLst, tTup, tIf_eq, tIfS_eq, ifk_t, ifk_f, iek_t, iek_f, tTest, tB, tAnd, tOr, tNot, tAndV, tOrV, tNotV, tNext, tSl, rSlL, tPart, tNoPart, gName, gTup, gCons, gNil, gSub, rSetL, tCall, iList, iTup, iRng1, iRng2, rIxL, rIxT, rEq, rNe, scal_ii, scal_bb, scal_ss, scal_nx, scal_xn, RZ.iZipA, rIsiF, rIsiFT, vty_non, vty_bl, vty_int, vty_str, isa_list_list, isa_list_tuple, isa_list_bool, isa_list_int, isa_list_str, isa_tuple_list, isa_tuple_tuple, isa_tuple_bool, isa_tuple_int, isa_tuple_str, isa_dict_list, isa_dict_tuple, isa_dict_bool, isa_dict_int, isa_dict_str, isa_bool_list, isa_bool_tuple, isa_bool_bool, isa_bool_int, isa_bool_str, isa_int_list, isa_int_tuple, isa_int_bool, isa_int_int, isa_int_str, isa_str_list, isa_str_tuple, isa_str_bool, isa_str_int, isa_str_str, isa_non_list, isa_non_tuple, isa_non_bool, isa_non_int, isa_non_str, kc_bool, kc_int, kc_str, kc_list, kc_tuple, upd_same, HO.tup.injEq, HO.lst.injEq, V.ty.injEq, Bool.or_true, Bool.true_or, Bool.or_false, Bool.false_or, sz_0, sz_1, sz_2, sz_3, sz_4, sz_5, sz_6, sz_7, sz_8, sz_9, sz_10, sz_11, sz_12, sz_13, decide_true, decide_false, C8.tCut, tBM, tBM0, rAppend, rTupU, rRepU, rExtend, rReverse, StX.tStar, tLstRg, tRg1, tRg2, tCKw, tLc2_eq, rCatU, rSlU, rRepT, rRep, rCat, tChain, exists_eq, tPar, tCallN,  tDisp, tPairs, rSlS, rLenS, rLenV, rListOf, rTupOf, tM0, tM1, iStr, wipe, tYes, tFor_eq, tLc_eq, L2.start, cxOf, Cx.nox, Cx.wish, List.map_cons, List.map_nil, List.length_cons, List.length_nil, List.replicate, List.cons_append, List.nil_append, List.getElem?_cons_zero, List.getElem?_cons_succ, List.set_cons_zero, List.set_cons_succ, Option.some.injEq, and_assoc, exists_and_left, exists_and_right, exists_eq_left', exists_eq_left, exists_eq, exists_eq', true_and, and_true, Nat.reduceSub, Nat.reduceAdd, V.int.injEq, V.ref.injEq, V.bl.injEq, V.str.injEq, List.cons.injEq, decide_eq_true_eq, reduceCtorEq, false_or, or_false, and_false, false_and, exists_false, exists_const, if_true, if_false, Bool.true_eq_false, Bool.false_eq_true, ite_true, ite_false, Bool.not_true, Bool.not_false, decide_eq_false_iff_not, ne_eq])

section
variable {P : Program} {w : World} {K : PySem.W.Frag} {mg : Str → Option Value} {base : Heap}
/-- the scope of the comprehension that the i-th statement hands to a call -/
def lcArg (s : Stmt) (i : Nat) : Scope := match (defBody s)[i]? with
  | some (.Assign _ (.Call _ [.ListComp _ _ sc _] _ _) _) => sc
  | _ => defScope s
theorem paired_mem {α β : Type} {R : α → β → Prop} : ∀ {as : List α} {bs : List β}, Paired R as bs → ∀ {b : β}, b ∈ bs → ∃ a, a ∈ as ∧ R a b
  | _, _, .nil, _, h => by cases h
  | _, _, .cons a b, _, h => by
    rcases List.mem_cons.mp h with rfl | h
    · exact ⟨_, List.mem_cons_self, a⟩
    · obtain ⟨c, h1, h2⟩ := paired_mem b h
      exact ⟨c, List.mem_cons_of_mem _ h1, h2⟩
theorem rows_is {H : Hp} {n : Nat} {rs : List Row} {xs : List V} (h : Paired (RowAt H) rs xs) : Paired (Is H (n + 1)) (rs.map rowD) xs := by
  induction h with
  | nil => exact .nil
  | cons a b ih =>
    obtain ⟨p, rfl, h1, h2⟩ := a
    exact .cons (is_row h1 h2) ih
/-- rows of n inputs that are kept in a list -/
def Kept (H : Hp) (n k : Int) (rs : List Row) (xs : List V) : Prop := Paired (RowAt H) rs xs ∧ ∀ r ∈ rs, (r.length : Int) = n ∧ RowOk k r
theorem Kept.same {H H' : Hp} {n k : Int} {rs : List Row} {xs : List V} (h : Kept H n k rs xs) (e : Same H H') : Kept H' n k rs xs := ⟨paired_mono (fun _ _ z => z.same e) h.1, h.2⟩
theorem Kept.up {H : Hp} {n k : Int} {rs : List Row} {xs : List V} {D : Addr} {ys zs : List V} (h : Kept H n k rs xs) (e : H D = some (.lst ys)) : Kept (upd H D (.lst zs)) n k rs xs := ⟨paired_mono (fun _ _ z => z.up e) h.1, h.2⟩
theorem Kept.snoc {H : Hp} {n k : Int} {rs : List Row} {xs : List V} {r : Row} {x : V} (h : Kept H n k rs xs) (a : RowAt H r x) (b : (r.length : Int) = n) (c : RowOk k r) : Kept H n k (rs ++ [r]) (xs ++ [x]) := ⟨Paired.snoc h.1 a, fun q hq => by
  rcases List.mem_append.mp hq with hq | hq
  · exact h.2 q hq
  · cases List.mem_singleton.mp hq
    exact ⟨b, c⟩⟩
theorem sqL_same {K : PySem.W.Frag} {H H' : Hp} {a : Addr} {xs : List V} (h : SqL K H a xs) (e : Same H H') : SqL K H' a xs := by
  rcases h with (h | ⟨o, h⟩) | h
  · exact .inl (.inl (e _ _ h))
  · exact .inl (.inr ⟨o, e _ _ h⟩)
  · exact .inr h
def IntsAt (H : Hp) (t : List Int) (x : V) : Prop := ∃ b, x = .ref b ∧ H b = some (.tup (t.map V.int))
theorem IntsAt.same {H H' : Hp} {t : List Int} {x : V} (h : IntsAt H t x) (e : Same H H') : IntsAt H' t x := by
  obtain ⟨b, h1, h2⟩ := h
  exact ⟨b, h1, e _ _ h2⟩
theorem IntsAt.up {H : Hp} {D : Addr} {ys zs : List V} {t : List Int} {x : V} (h : IntsAt H t x) (hD : H D = some (.lst ys)) : IntsAt (upd H D (.lst zs)) t x := by
  obtain ⟨b, h1, h2⟩ := h
  refine ⟨b, h1, ?_⟩
  rw [upd_ne fun e => by rw [e, hD] at h2; cases h2]
  exact h2
def sp_turn (K : PySem.W.Frag) : Sp := fun vs H Q _ => ∃ (B : BagId) (n k : Int), vs = [.ref B.b, .int n, .int k] ∧ Bag B H ∧ 0 ≤ n ∧ n ≤ 8 ∧ (k = 2 ∨ k = 3) ∧ ∀ H', Ext B H H' → Q (.bl true) H'
theorem ok_order_so (T : Txt K mg) : FnOk P w K mg base CX0 5 T.l_order_so.f T.l_order_so.d ["_law_bag_here", "_law_n", "_law_base"] (sp_turn K) := by
  have G_l_draw : FnOk P w K mg base CX0 1 T.l_draw.f T.l_draw.d ["_law_bag_here", "_law_size"] sp_draw := ok_draw T
  have G_l_of : FnOk P w K mg base CX0 2 T.l_of.f T.l_of.d ["_law_bag_here", "_law_things"] (sp_of K) := ok_of T
  have G_l_row : FnOk P w K mg base CX0 3 T.l_row.f T.l_row.d ["_law_bag_here", "_law_n", "_law_base"] (sp_row K) := ok_row T
  have G_l_kin : FnOk P w K mg base CX0 3 T.l_kin.f T.l_kin.d ["_law_bag_here", "_law_row_here", "_law_base"] (sp_kin K) := ok_kin T
  have G_l_row_of : FnOk P w K mg base CX0 1 T.l_row_of.f T.l_row_of.d ["_law_rank"] sp_row_of := ok_row_of T
  have G_in_order : FnOk P w K mg base CX0 4 T.in_order.f T.in_order.d ["rows"] (sp_order K) := ok_in_order T
  have G_l_like : FnOk P w K mg base CX0 3 T.l_like.f T.l_like.d ["_law_found", "_law_due"] (sp_like 2) := ok_like T 3
  refine T.l_order_so.F.ok sc_l_order_so (fun vs H Q E h => ?_) (fun cdv A outer s H vs Q E hr h => ?_)
  · obtain ⟨B, n, k, rfl, _⟩ := h
    rfl
  obtain ⟨B, n, k, rfl, hB, n0, n8, hk, q⟩ := h
  refine ⟨_, (pss_cons (ps_set (i := 3) sc_l_order_so.nd rfl (.inl rfl) (pe_lst (pa_cons (pe_call G_l_row (hr.mono (by omega)) (by rfl) T.l_row.g T.l_row.kp T.l_row.b .nil pass0 (pa_cons (pv 0) (pa_cons (pv 1) (pa_cons (pv 2) pa_nil)))) pa_nil)))
      (pss_cons (ps_for PassesOwn.never rfl (pi_range1 (by rfl) T.z_range (pa_cons (pe_call G_l_draw (hr.mono (by omega)) (by rfl) T.l_draw.g T.l_draw.kp T.l_draw.b .nil pass0 (pa_cons (pv 0) (pa_cons pe_int pa_nil))) pa_nil)) (pg_name (i := 4) sc_l_order_so.nd rfl (.inl rfl))
      (pss_one (ps_expr (pe_bm PySem.F.plainAttrs_list PySem.F.slot_list_append PySem.F.type_list_append mt_append (pv 3) (pa_cons (pe_call G_l_kin (hr.mono (by omega)) (by rfl) T.l_kin.g T.l_kin.kp T.l_kin.b .nil pass0 (pa_cons (pv 0) (pa_cons (pe_call G_l_of (hr.mono (by omega)) (by rfl) T.l_of.g T.l_of.kp T.l_of.b .nil pass0 (pa_cons (pv 0) (pa_cons (pv 3) pa_nil))) (pa_cons (pv 2) pa_nil)))) pa_nil)))))
      (pss_cons (ps_set (i := 3) sc_l_order_so.nd rfl (.inl rfl) (pe_ifExp (pt_cmpR op_gt (pe_call G_l_draw (hr.mono (by omega)) (by rfl) T.l_draw.g T.l_draw.kp T.l_draw.b .nil pass0 (pa_cons (pv 0) (pa_cons pe_int pa_nil))) pe_int (nomark _)) (pv 3) (pe_lst pa_nil)))
      (pss_cons (ps_set (i := 5) sc_l_order_so.nd rfl (.inl rfl) (pe_call G_l_of (hr.mono (by omega)) (by rfl) T.l_of.g T.l_of.kp T.l_of.b .nil pass0 (pa_cons (pv 0) (pa_cons (pe_lst (pa_cons (pe_callTy call_list_of (by rfl) T.z_list (by decide +kernel) (pa_cons (pv 3) pa_nil)) (pa_cons (pe_callTy call_tuple_ofU (by rfl) T.z_tuple (by decide +kernel) (pa_cons (pv 3) pa_nil)) pa_nil))) pa_nil))))
      (pss_cons (ps_set (i := 6) sc_l_order_so.nd rfl (.inl rfl) (pe_callB (call_sortN hr.units) (by rfl) T.z_sorted (by decide +kernel) (pa_cons (pe_lc (own := [("_law_row_here", 10)]) (g := gName 10) rfl sc_l_order_so.nd (pi_list (pv 3)) (blkOk_by (own := [("_law_row_here", 10)]) (N := ["_law_bag_here", "_law_n", "_law_base", "_law_rows_here", "_law_k", "_law_passed", "_law_ranks", "_law_due", "_law_found", "_law_rank", "_law_row_here", "_law_v"]) (sc := defScope s_l_order_so) (by decide +kernel)) (fun _ _ _ _ _ => (pg_name (i := 10) sc_l_order_so.nd rfl (.inl rfl))) (fun _ _ _ _ _ => pts_nil) (fun _ _ _ _ _ => (pe_callTy call_tuple_ofU (by rfl) T.z_tuple (by decide +kernel) (pa_cons (pe_lc (own := [("_law_v", 11)]) (g := gName 11) (wi := iTup K (tVar 10)) rfl sc_l_order_so.nd (pi_tup (pv 10)) (blkOk_by (own := [("_law_v", 11)]) (N := ["_law_bag_here", "_law_n", "_law_base", "_law_rows_here", "_law_k", "_law_passed", "_law_ranks", "_law_due", "_law_found", "_law_rank", "_law_row_here", "_law_v"]) (sc := lcArg s_l_order_so 4) (by decide +kernel)) (fun _ _ _ _ _ => (pg_name (i := 11) sc_l_order_so.nd rfl (.inl rfl))) (fun _ _ _ _ _ => pts_nil) (fun _ _ _ _ _ => (pe_ifExp (pt_cmpR op_isN (pv 11) pe_non (nomark _)) pe_int (pe_op op_add (pv 11) pe_int)))) pa_nil)))) pa_nil)))
      (pss_cons (ps_setLc (i := 7) (own := [("_law_rank", 9)]) (g := gName 9) rfl sc_l_order_so.nd rfl rfl (sw_true rfl rfl rfl (by decide +kernel)) (pi_list (pv 6)) (blkOk_by (own := [("_law_rank", 9)]) (N := ["_law_bag_here", "_law_n", "_law_base", "_law_rows_here", "_law_k", "_law_passed", "_law_ranks", "_law_due", "_law_found", "_law_rank", "_law_row_here", "_law_v"]) (sc := defScope s_l_order_so) (by decide +kernel)) (fun _ _ _ _ _ => (pg_name (i := 9) sc_l_order_so.nd rfl (.inl rfl))) (fun _ _ _ _ _ => pts_nil) (fun _ _ _ _ _ => (pe_call G_l_row_of (hr.mono (by omega)) (by rfl) T.l_row_of.g T.l_row_of.kp T.l_row_of.b .nil pass0 (pa_cons (pv 9) pa_nil))))
      (pss_cons (ps_set (i := 8) sc_l_order_so.nd rfl (.inl rfl) (pe_call G_in_order (hr.mono (by omega)) (by rfl) T.in_order.g T.in_order.kp T.in_order.b .nil pass0 (pa_cons (pv 5) pa_nil)))
      (pss_cons (ps_if (PW.pt (pw_or (pt_not (pt_val (pe_call G_l_like (hr.mono (by omega)) (by rfl) T.l_like.g T.l_like.kp T.l_like.b .nil pass0 (pa_cons (pv 8) (pa_cons (pv 7) pa_nil))))) (pw_or1 (pt_not (pt_val (pe_call G_l_like (hr.mono (by omega)) (by rfl) T.l_like.g T.l_like.kp T.l_like.b .nil pass0 (pa_cons (pe_callTy call_list_of (by rfl) T.z_list (by decide +kernel) (pa_cons (pv 5) pa_nil)) (pa_cons (pv 3) pa_nil))))))))
      (pss_one (ps_ret pe_bl))
      pss_nil)
      (pss_cons (ps_expr (pe_bm PySem.F.plainAttrs_list PySem.F.slot_list_append PySem.F.type_list_append mt_append (pv 8) (pa_cons (pe_tup (pa_cons pe_int pa_nil)) pa_nil)))
      (pss_cons (ps_expr (pe_bm0 PySem.F.plainAttrs_list PySem.F.slot_list_reverse PySem.F.type_list_reverse mt_reverse (pv 8)))
      (pss_one (ps_ret (pe_and (pe_call G_l_like (hr.mono (by omega)) (by rfl) T.l_like.g T.l_like.kp T.l_like.b .nil pass0 (pa_cons (pe_call G_in_order (hr.mono (by omega)) (by rfl) T.in_order.g T.in_order.kp T.in_order.b .nil pass0 (pa_cons (pv 5) pa_nil)) (pa_cons (pv 7) pa_nil))) (pe_one (pe_call G_l_like (hr.mono (by omega)) (by rfl) T.l_like.g T.l_like.kp T.l_like.b .nil pass0 (pa_cons (pe_call G_in_order (hr.mono (by omega)) (by rfl) T.in_order.g T.in_order.kp T.in_order.b .nil pass0 (pa_cons (pv 7) pa_nil)) (pa_cons (pv 7) pa_nil))))))))))))))))), ?_⟩
  walk_at "wp"
  refine ⟨B, n, k, rfl, hB, n0, by omega, hk, fun t0 r0 H1 _ x1 ht0 hl0 hro0 => ?_⟩
  intro p hp_p; generalize hh_p : upd H1 p _ = H2; obtain ⟨x2, g2⟩ := gen_new x1.bag hp_p hh_p; clear hh_p
  refine ⟨B, _, rfl, x2.bag, by decide, by decide, fun j H3 x3 j0 j1 => ⟨j, rfl, by omega, by omega, ?_⟩⟩
  obtain ⟨Pv, hPv⟩ : ∃ M : Nat → L2.St → Hp → Prop, ∀ i σ H4, M i σ H4 ↔ ∃ (rs : List Row) (xs : List V) (z4 : Option V), σ = [some (.ref B.b), some (.int n), some (.int k), some (.ref p), z4, none, none, none, none, none, none, none] ∧ Ext B H1 H4 ∧ cut B.b H4 p = some (.lst xs) ∧ Kept (cut B.b H4) n k rs xs ∧ 1 ≤ xs.length ∧ xs.length ≤ i + 1 := ⟨_, fun _ _ _ => Iff.rfl⟩
  refine lp_it (walk_range (n := j.toNat)) (fun i σ H4 => Pv i σ H4) ((hPv _ _ _).mpr ⟨[r0], [.ref t0], none, rfl, x2.trans x3, x3.same _ _ g2, ⟨.cons ⟨t0, rfl, (x2.trans x3).same _ _ ht0, by omega⟩ .nil, fun r hr => by cases List.mem_singleton.mp hr; exact ⟨hl0, hro0⟩⟩, by simp, by simp⟩) (fun _ _ _ _ _ => trivial) (fun i x σ H4 H5 hi h hy => ?_) (fun σ H4 h => ?_)
  · obtain ⟨rs, xs, z4, rfl, x4, hp4, hkp, hx0, hx1⟩ := (hPv _ _ _).mp h
    obtain ⟨rfl, rfl⟩ := hy
    walk_at "wp"
    refine ⟨.inl ⟨rfl, _, .inl (.inl (cut_some hp4).1)⟩, B, p, xs, rfl, x4.bag, .inl (.inl hp4), by omega, by omega, fun v H6 hv x6 => ?_⟩
    obtain ⟨r, hr, hrv⟩ := paired_mem hkp.1 hv
    obtain ⟨a, rfl, ha, hal⟩ := hrv.same x6.same
    obtain ⟨hrn, hrk⟩ := hkp.2 r hr
    refine ⟨B, a, r, k, rfl, x6.bag, ha, by omega, hrk, hk, fun t r' H7 x7 ht hl' hro' => ?_⟩
    have hp7 := x7.same _ _ (x6.same _ _ hp4)
    have hpB := (cut_some hp7).2
    refine ⟨_, (cut_some hp7).1, Nat.lt_of_lt_of_le (by omega : xs.length < 1000) (by decide), ?_⟩
    refine (hPv _ _ _).mpr ⟨rs ++ [r'], _, _, rfl, Ext.mut x1.bag (x4.trans (x6.trans x7)) hp_p, by rw [cut_upd hpB, upd_same], ?_, by rw [List.length_append]; omega, by rw [List.length_append, List.length_singleton]; omega⟩
    rw [cut_upd hpB]
    exact ((hkp.same (x6.trans x7).same).up hp7).snoc (RowAt.up hp7 ⟨t, rfl, ht, by omega⟩) (by omega) hro'
  · obtain ⟨rs, xs, z4, rfl, x4, hp4, hkp, hx0, hx1⟩ := (hPv _ _ _).mp h
    walk_at "wp"
    have y4 := x1.trans x4
    refine ⟨B, _, rfl, y4.bag, by decide, by decide, fun j2 H5 x5 j20 j21 => ⟨j2, rfl, ?_⟩⟩
    refine iek_ext (fun v H6 => ∃ (l : Addr) (rs : List Row) (xs : List V), v = .ref l ∧ Ext B H H6 ∧ cut B.b H6 l = some (.lst xs) ∧ Kept (cut B.b H6) n k rs xs ∧ xs.length ≤ 1000) (fun c R hR => ?_) (fun c R hR => ?_) (fun v H6 hv => ?_)
    · walk_at "wp"
      exact hR _ _ ⟨p, rs, xs, rfl, y4.trans x5, x5.same _ _ hp4, hkp.same x5.same, by omega⟩
    · walk_at "wp"
      intro p6 hp_p6; generalize hh_p6 : upd H5 p6 _ = H6; obtain ⟨x6, g6⟩ := gen_new x5.bag hp_p6 hh_p6; clear hh_p6
      exact hR _ _ ⟨p6, [], [], rfl, y4.trans (x5.trans x6), g6, ⟨.nil, fun r hr => by cases hr⟩, by simp⟩
    · obtain ⟨l, rs, xs, rfl, x6, hl6, hkp, hxl⟩ := hv
      clear hPv h
      have b6 := x6.bag
      refine ⟨l, rfl, xs, .inl (.inl (.inl (cut_some hl6).1)), ?_⟩
      intro l1 hp_l1; generalize hh_l1 : upd H6 l1 _ = H7; obtain ⟨x7, g7⟩ := gen_new b6 hp_l1 hh_l1; clear hh_l1
      have hl7 := x7.same _ _ hl6
      refine ⟨l, rfl, xs, .inl (cut_some hl7).1, fun t1 H8 s8 h8 => ?_⟩
      have x8 : Ext B H7 H8 := .of_same x7.bag s8
      intro l2 hp_l2; generalize hh_l2 : upd H8 l2 _ = H9; obtain ⟨x9, g9⟩ := gen_new x8.bag hp_l2 hh_l2; clear hh_l2
      refine ⟨B, l2, _, rfl, x9.bag, .inl (.inl g9), by simp, by simp, fun ps H10 hm x10 => ?_⟩
      have y10 := x7.trans (x8.trans (x9.trans x10))
      have e10 := x6.trans y10
      obtain ⟨a, rfl, ha⟩ : ∃ a, ps = .ref a ∧ (SqL K H10 a xs ∨ SqT K H10 a xs) := by
        simp only [List.mem_cons, List.not_mem_nil, or_false] at hm
        rcases hm with rfl | rfl
        · exact ⟨l1, rfl, .inl (.inl (.inl (cut_some ((x8.trans (x9.trans x10)).same _ _ g7)).1))⟩
        · exact ⟨t1, rfl, .inr (.inl (.inl (cut_some ((x9.trans x10).same _ _ (cut_tup x8.bag h8))).1))⟩
      have hl10 := (cut_some (y10.same _ _ hl6)).1
      have hk10 : Kept H10 n k rs xs := (hkp.same y10.same).same cut_out
      have ha' : ∀ H', Same H10 H' → SqL K H' a xs ∨ SqT K H' a xs := fun H' e => by
        rcases ha with ha | ha
        · exact .inl (sqL_same ha e)
        · exact .inr (sqT_same ha e)
      clear hm x7 x8 x9 x10 y10 g7 g9 h8 s8 hl6 hl7 hkp x6 x4 x5 y4 hp4 x1 x2 x3 g2 ht0 hp_l1 hp_l2 hp_p
      have hrl : rs.length = xs.length := paired_len hk10.1
      refine ⟨l, rfl, ⟨xs, .inl (.inl hl10)⟩, ?_⟩
      refine lcP (walk_list (xs := xs)) IntsAt (fun _ _ _ _ e h => h.same e) (fun _ _ _ _ _ _ e h => h.up e) (rs.map lrR) (by rw [List.length_map]; exact hrl) (by omega) (fun H1 s => .inl (.inl (s _ _ hl10))) (fun i x H1 H2 Rr t ht s hy c => ⟨rfl, ?_⟩) (fun D H1 ys hD s hz hp => ?_)
      · obtain ⟨rfl, hx⟩ := hy
        obtain ⟨r, hr, hrv⟩ := paired_two hk10.1 hx
        obtain ⟨b, rfl, hb, hbl⟩ := hrv.same s
        rw [List.getElem?_map, hr] at ht
        obtain rfl : lrR r = t := Option.some.inj ht
        walk_at "wp"
        refine ⟨⟨_, .inl (.inl hb)⟩, ?_⟩
        refine map_row (fun xs n e1 e2 => by subst e1 e2; exact (by rw [show r.length = (rowV r).length from (List.length_map _).symm]; exact walk_tup)) hb hbl (fun u => .int (lrV u)) (fun u H' R c => ?_) (fun _ => rfl) (fun D H3 hD s3 hz => ?_)
        · cases u with
          | none =>
            unfold lrV at c
            unfold valV
            walk_at "wp"
            exact c
          | some i =>
            unfold lrV at c
            unfold valV
            walk_at "wp"
            exact c
        · refine ⟨_, rfl, _, .inl hz, fun p H4 s4 h4 => c _ _ (s3.trans s4) ⟨p, rfl, ?_⟩⟩
          rw [h4]
          unfold lrR
          rw [List.map_map]
          rfl
      · have hD1 : H1 D = some (.lst ys) := hz
        refine ⟨D, ys, rs.map lrR, n.toNat, _, rfl, .inl (.inl hz), fun t x ⟨b, h1, h2⟩ => ⟨b, h1, .inl (.inl h2)⟩, hp, fun t ht => ?_, fun p ys2 hp2 hS hl2 => ?_⟩
        · obtain ⟨r, hr, rfl⟩ := List.mem_map.mp ht
          have := (hk10.2 r hr).1
          unfold lrR
          rw [List.length_map]
          omega
        · have s2 := same_upd (o := .lst ys2) hp2
          have hp3 : (upd H1 p (.lst ys2)) p = some (.lst ys2) := upd_same
          have hS2 := paired_mono (fun _ _ h => IntsAt.same h s2) hS
          generalize upd H1 p (.lst ys2) = H2 at s2 hp3 hS2
          have t2 := s.trans s2
          have hSl : ((rs.map lrR).mergeSort leN).length = ys2.length := paired_len hS2
          have hyl : ys2.length ≤ 1000 := by rw [← hSl, List.length_mergeSort, List.length_map]; omega
          refine ⟨p, rfl, ⟨ys2, .inl (.inl hp3)⟩, ?_⟩
          have hSn : ∀ t ∈ (rs.map lrR).mergeSort leN, t.length ≤ 1000 := fun t ht => by
            obtain ⟨r, hr, rfl⟩ := List.mem_map.mp (List.mem_mergeSort.mp ht)
            have := (hk10.2 r hr).1
            unfold lrR
            rw [List.length_map]
            omega
          have hro : ∀ r ∈ rs, RowOk k r := fun r hr => (hk10.2 r hr).2
          have hdl : ∀ r ∈ rs, r.length = n.toNat := fun r hr => by
            have := (hk10.2 r hr).1
            omega
          refine lcP (walk_list (xs := ys2)) RowAt (fun _ _ _ _ e h => h.same e) (fun _ _ _ _ _ _ e h => h.up e) (((rs.map lrR).mergeSort leN).map fun t => t.map unV) (by rw [List.length_map]; exact hSl) (by omega) (fun H1 s => .inl (.inl (s _ _ hp3))) (fun i x H3 H4 Rr b hb s3 hy c => ⟨rfl, ?_⟩) (fun D3 H3 ws hD3 s3 hw hpw => ?_)
          · obtain ⟨rfl, hx⟩ := hy
            obtain ⟨t, ht, htv⟩ := paired_two hS2 hx
            obtain ⟨b2, rfl, hb2⟩ := htv.same s3
            rw [List.getElem?_map, ht] at hb
            obtain rfl : t.map unV = b := Option.some.inj hb
            have htl := hSn t (List.mem_of_getElem? ht)
            walk_at "wp"
            exact ⟨b2, t, rfl, hb2, htl, fun p4 H5 s5 h5 => c _ _ s5 ⟨p4, rfl, h5, by rw [List.length_map]; exact htl⟩⟩
          · rw [ordR_law hro] at hpw
            have t3 := t2.trans s3
            have hol : (ordR rs).length = xs.length := by rw [ordR_len]; exact hrl
            have hod : ∀ r ∈ ordR rs, r.length = n.toNat := fun r hr => hdl r (ordR_mem hr)
            have hwl : ws.length = xs.length := by rw [← paired_len hpw]; exact hol
            refine ⟨a, xs, rs, n.toNat, rfl, ha' _ t3, (hk10.same t3).1, hdl, fun f ys4 H4 hf s4 hf4 hp4 hl4 => ?_⟩
            have t4 := t3.trans s4
            have hw4 := s4 _ _ hw
            have hpw4 := paired_mono (fun _ _ h => RowAt.same s4 h) hpw
            refine ⟨_, _, .list ((ordR rs).map rowD), rfl, is_list hf4 (rows_is hp4) (by rw [List.length_map]; omega), is_list hw4 (rows_is hpw4) (by rw [List.length_map]; omega), fun H5 s5 => ?_⟩
            walk_at "wp"
            have t5 := t4.trans s5
            refine ⟨xs, ha' _ t5, ?_⟩
            intro l6 hp_l6; generalize hh_l6 : upd H5 l6 _ = H6; obtain ⟨s6, g6⟩ := gen_same hp_l6 hh_l6; clear hh_l6
            have t6 := t5.trans s6
            refine ⟨_, _, .list (rs.map rowD), rfl, is_list g6 (rows_is (hk10.same t6).1) (by rw [List.length_map]; omega), is_list (t6 _ _ hl10) (rows_is (hk10.same t6).1) (by rw [List.length_map]; omega), fun H7 s7 => ?_⟩
            have s37 := s4.trans (s5.trans (s6.trans s7))
            have t7 := t6.trans s7
            have hf7 := (s5.trans (s6.trans s7)) _ _ hf4
            have hw7 := s37 _ _ hw
            have hpw7 := paired_mono (fun _ _ h => RowAt.same s37 h) hpw
            have hfr : ∀ b o, H3 b = some o → b ≠ f := fun b o e => ne_of_none e hf
            clear s4 s5 s6 s7 hp4 hpw4 hw4 hf4 g6 t4 t5 t6
            walk_at "wp"
            refine ⟨.inl ⟨rfl, _, .inl (.inl hf7)⟩, ?_⟩
            intro z8 hp_z8; generalize hh_z8 : upd H7 z8 _ = H8; obtain ⟨s8, g8⟩ := gen_same hp_z8 hh_z8; clear hh_z8
            have hf8 := s8 _ _ hf7
            refine ⟨_, hf8, Nat.lt_of_lt_of_le (by omega : ys4.length < 100000) (by decide), .inl ⟨rfl, _, .inl (.inl upd_same)⟩, ?_⟩
            rw [upd_upd]
            have s9 : Same H3 (upd H8 f (.lst (ys4 ++ [V.ref z8]).reverse)) := fun b o e => by
              rw [upd_ne (hfr b o e)]
              exact s8 _ _ (s37 _ _ e)
            generalize upd H8 f (.lst (ys4 ++ [V.ref z8]).reverse) = H9 at s9 ⊢
            have t9 := t3.trans s9
            have hw9 := s9 _ _ hw
            have hpw9 := paired_mono (fun _ _ h => RowAt.same s9 h) hpw
            refine ⟨a, xs, rs, n.toNat, rfl, ha' _ t9, (hk10.same t9).1, hdl, fun f2 ys5 H10' hf2 s10 hf10 hp10 hl10' => ?_⟩
            have hpw10 := paired_mono (fun _ _ h => RowAt.same s10 h) hpw9
            refine ⟨_, _, .list ((ordR rs).map rowD), rfl, is_list hf10 (rows_is hp10) (by rw [List.length_map]; omega), is_list (s10 _ _ hw9) (rows_is hpw10) (by rw [List.length_map]; omega), fun H11 s11 => ?_⟩
            walk_at "wp"
            have s11' := s10.trans s11
            have hw11 := s11' _ _ hw9
            have hpw11 := paired_mono (fun _ _ h => RowAt.same s11' h) hpw9
            refine ⟨D3, ws, ordR rs, n.toNat, rfl, .inl (.inl (.inl hw11)), hpw11, hod, fun f3 ys6 H12 hf3 s12 hf12 hp12 hl12 => ?_⟩
            rw [ordR_twice] at hp12
            have hpw12 := paired_mono (fun _ _ h => RowAt.same s12 h) hpw11
            refine ⟨_, _, .list ((ordR rs).map rowD), rfl, is_list hf12 (rows_is hp12) (by rw [List.length_map]; omega), is_list (s12 _ _ hw11) (rows_is hpw12) (by rw [List.length_map]; omega), fun H13 s13 => ?_⟩
            exact q _ (e10.trans (.of_same e10.bag (t9.trans (s11'.trans (s12.trans s13)))))
end
end Kx

set_option Elab.async false
set_option linter.all false
set_option maxRecDepth 100000
set_option maxHeartbeats 4000000
namespace Kx
open PySem PySem.Spec PyProof.Rows L2
local macro_rules | `(tactic| walk_at "wp") => `(tactic| simp only [tSeq, tAsg, tC, tVar, tOp, tUn, rI, rI0, rU, tCB, tCons, tNil, tRet, tRetN, tDrop, tLst, tTup, tIf_eq, tIfS_eq, ifk_t, ifk_f, iek_t, iek_f, tTest, tB, tAnd, tOr, tNot, tAndV, tOrV, tNotV, tNext, tSl, rSlL, tPart, tNoPart, gName, gTup, gCons, gNil, gSub, rSetL, tCall, iList, iTup, iRng1, iRng2, rIxL, rIxT, rEq, rNe, scal_ii, scal_bb, scal_ss, scal_nx, scal_xn, RZ.iZipA, rIsiF, rIsiFT, vty_non, vty_bl, vty_int, vty_str, isa_list_list, isa_list_tuple, isa_list_bool, isa_list_int, isa_list_str, isa_tuple_list, isa_tuple_tuple, isa_tuple_bool, isa_tuple_int, isa_tuple_str, isa_dict_list, isa_dict_tuple, isa_dict_bool, isa_dict_int, isa_dict_str, isa_bool_list, isa_bool_tuple, isa_bool_bool, isa_bool_int, isa_bool_str, isa_int_list, isa_int_tuple, isa_int_bool, isa_int_int, isa_int_str, isa_str_list, isa_str_tuple, isa_str_bool, isa_str_int, isa_str_str, isa_non_list, isa_non_tuple, isa_non_bool, isa_non_int, isa_non_str, kc_bool, kc_int, kc_str, kc_list, kc_tuple, upd_same, HO.tup.injEq, HO.lst.injEq, V.ty.injEq, Bool.or_true, Bool.true_or, Bool.or_false, Bool.false_or, sz_0, sz_1, sz_2, sz_3, sz_4, sz_5, sz_6, sz_7, sz_8, sz_9, sz_10, sz_11, sz_12, sz_13, decide_true, decide_false, C8.tCut, tBM, tBM0, rAppend, rTupU, rRepU, rExtend, rReverse, StX.tStar, tLstRg, tRg1, tRg2, tCKw, tLc2_eq, rCatU, rSlU, rRepT, rRep, rCat, tChain, exists_eq, tPar, tCallN,  tDisp, tPairs, rSlS, rLenS, rLenV, rListOf, rTupOf, tM0, tM1, iStr, wipe, tYes, tFor_eq, tLc_eq, L2.start, cxOf, Cx.nox, Cx.wish, List.map_cons, List.map_nil, List.length_cons, List.length_nil, List.replicate, List.cons_append, List.nil_append, List.getElem?_cons_zero, List.getElem?_cons_succ, List.set_cons_zero, List.set_cons_succ, Option.some.injEq, and_assoc, exists_and_left, exists_and_right, exists_eq_left', exists_eq_left, exists_eq, exists_eq', true_and, and_true, Nat.reduceSub, Nat.reduceAdd, V.int.injEq, V.ref.injEq, V.bl.injEq, V.str.injEq, List.cons.injEq, decide_eq_true_eq, reduceCtorEq, false_or, or_false, and_false, false_and, exists_false, exists_const, if_true, if_false, Bool.true_eq_false, Bool.false_eq_true, ite_true, ite_false, Bool.not_true, Bool.not_false, decide_eq_false_iff_not, ne_eq])

section
variable {P : Program} {w : World} {K : PySem.W.Frag} {mg : Str → Option Value} {base : Heap}
def sp_last (K : PySem.W.Frag) : Sp := fun vs H Q _ => ∃ (B : BagId), vs = [.ref B.b] ∧ Bag B H ∧ ∀ H', Q (.bl true) H'
theorem ok_every_so (T : Txt K mg) : FnOk P w K mg base CX0 4 T.l_every_so.f T.l_every_so.d ["_law_bag_here"] (sp_last K) := by
  have G_l_draw : FnOk P w K mg base CX0 1 T.l_draw.f T.l_draw.d ["_law_bag_here", "_law_size"] sp_draw := ok_draw T
  have G_l_of : FnOk P w K mg base CX0 2 T.l_of.f T.l_of.d ["_law_bag_here", "_law_things"] (sp_of K) := ok_of T
  have G_l_rows : FnOk P w K mg base CX0 2 T.l_rows.f T.l_rows.d ["_law_n", "_law_base"] sp_every := ok_l_rows T
  have G_every_row : FnOk P w K mg base CX0 2 T.every_row.f T.every_row.d ["inputs", "signs"] sp_every := ok_every_row T
  have G_l_like : FnOk P w K mg base CX0 3 T.l_like.f T.l_like.d ["_law_found", "_law_due"] (sp_like 2) := ok_like T 3
  obtain ⟨mv_every_row, kb_every_row⟩ := kb_every T
  obtain ⟨ds_every_row, v_every_row, b_every_row⟩ := b1_every T
  refine T.l_every_so.F.ok sc_l_every_so (fun vs H Q E h => ?_) (fun cdv A outer s H vs Q E hr h => ?_)
  · obtain ⟨B, rfl, _⟩ := h
    rfl
  obtain ⟨B, rfl, hB, q⟩ := h
  refine ⟨_, (pss_cons (ps_par (i := 1) (j := 2) (by rfl) sc_l_every_so.nd rfl rfl (by decide) rfl rfl (pa_cons (pe_call G_l_of (hr.mono (by omega)) (by rfl) T.l_of.g T.l_of.kp T.l_of.b .nil pass0 (pa_cons (pv 0) (pa_cons (pe_lst (pa_cons pe_int (pa_cons pe_int (pa_cons pe_int (pa_cons pe_int (pa_cons pe_int (pa_cons pe_int (pa_cons pe_int (pa_cons pe_int (pa_cons pe_int pa_nil)))))))))) pa_nil))) (pa_cons (pe_op op_add pe_int (pe_call G_l_draw (hr.mono (by omega)) (by rfl) T.l_draw.g T.l_draw.kp T.l_draw.b .nil pass0 (pa_cons (pv 0) (pa_cons pe_int pa_nil)))) pa_nil)) (by rfl))
      (pss_cons (ps_set (i := 3) sc_l_every_so.nd rfl (.inl rfl) (pe_call G_l_rows (hr.mono (by omega)) (by rfl) T.l_rows.g T.l_rows.kp T.l_rows.b .nil pass0 (pa_cons (pv 1) (pa_cons (pv 2) pa_nil))))
      (pss_cons (ps_set (i := 4) sc_l_every_so.nd rfl (.inl rfl) (pe_callN G_every_row (hr.mono (by omega)) (by rfl) T.every_row.g T.every_row.F.kp kb_every_row pass0 (pa_cons (pv 1) pa_nil) (pk_cons (pv 2) pk_nil)))
      (pss_cons (ps_if (pt_not (pt_val (pe_call G_l_like (hr.mono (by omega)) (by rfl) T.l_like.g T.l_like.kp T.l_like.b .nil pass0 (pa_cons (pv 4) (pa_cons (pv 3) pa_nil)))))
      (pss_one (ps_ret pe_bl))
      pss_nil)
      (pss_cons (ps_expr (pe_bm0 PySem.F.plainAttrs_list PySem.F.slot_list_reverse PySem.F.type_list_reverse mt_reverse (pv 4)))
      (pss_cons (ps_expr (pe_bm PySem.F.plainAttrs_list PySem.F.slot_list_append PySem.F.type_list_append mt_append (pv 4) (pa_cons (pe_tup pa_nil) pa_nil)))
      (pss_cons (ps_if (PW.pt (pw_and (pt_cmpR op_eq (pv 2) pe_int (nomark _)) (pw_and1 (pt_not (pt_val (pe_call G_l_like (hr.mono (by omega)) (by rfl) T.l_like.g T.l_like.kp T.l_like.b .nil pass0 (pa_cons (pe_call G_every_row (hr.mono (by omega)) (by rfl) T.every_row.g T.every_row.F.kp b_every_row v_every_row pass0 (pa_cons (pv 1) pa_nil)) (pa_cons (pv 3) pa_nil))))))))
      (pss_one (ps_ret pe_bl))
      pss_nil)
      (pss_one (ps_ret (pe_and (pe_call G_l_like (hr.mono (by omega)) (by rfl) T.l_like.g T.l_like.kp T.l_like.b .nil pass0 (pa_cons (pe_callN G_every_row (hr.mono (by omega)) (by rfl) T.every_row.g T.every_row.F.kp kb_every_row pass0 (pa_cons (pv 1) pa_nil) (pk_cons (pv 2) pk_nil)) (pa_cons (pv 3) pa_nil))) (pe_one (pe_call G_l_like (hr.mono (by omega)) (by rfl) T.l_like.g T.l_like.kp T.l_like.b .nil pass0 (pa_cons (pe_call G_every_row (hr.mono (by omega)) (by rfl) T.every_row.g T.every_row.F.kp b_every_row v_every_row pass0 (pa_cons pe_int pa_nil)) (pa_cons (pe_lst (pa_cons (pe_tup (pa_cons pe_non pa_nil)) (pa_cons (pe_tup (pa_cons pe_int pa_nil)) (pa_cons (pe_tup (pa_cons pe_int pa_nil)) pa_nil)))) pa_nil)))))))))))))), ?_⟩
  walk_at "wp"
  intro p0 hp_p0; generalize hh_p0 : upd H p0 _ = H1; obtain ⟨x1, g1⟩ := gen_new hB hp_p0 hh_p0; clear hh_p0
  refine ⟨B, p0, _, rfl, x1.bag, .inl (.inl g1), by simp, by simp, fun nv H2 hm x2 => ?_⟩
  obtain ⟨n, rfl, n0, n1⟩ : ∃ n : Int, nv = .int n ∧ 0 ≤ n ∧ n ≤ 5 := by
    simp only [List.mem_cons, List.not_mem_nil, or_false] at hm
    rcases hm with rfl | rfl | rfl | rfl | rfl | rfl | rfl | rfl | rfl <;> exact ⟨_, rfl, by omega, by omega⟩
  refine ⟨B, _, rfl, x2.bag, by decide, by decide, fun d H3 x3 d0 d1 => ?_⟩
  have hk : 2 + d = 2 ∨ 2 + d = 3 := by omega
  walk_at "wp"
  refine ⟨n, 2 + d, rfl, n0, by omega, hk, fun p4 ys4 H4 hp4 s4 h4 hr4 => ?_⟩
  have hsz : (aboveR (2 + d) (List.replicate n.toNat none)).length ≤ 5000 := by
    refine Nat.le_trans (aboveR_len hk n.toNat _ List.length_replicate) ?_
    exact Nat.le_trans (Nat.pow_le_pow_right (by decide) (by omega : n.toNat ≤ 5)) (by decide)
  refine ⟨n, 2 + d, rfl, n0, by omega, hk, fun p5 ys5 H5 hp5 s5 h5 hr5 => ?_⟩
  refine ⟨_, _, .list ((aboveR (2 + d) (List.replicate n.toNat none)).map rowD), rfl, is_list h5 (rows_is hr5) (by rw [List.length_map]; exact hsz), is_list (s5 _ _ h4) (rows_is (paired_mono (fun _ _ h => RowAt.same s5 h) hr4)) (by rw [List.length_map]; exact hsz), fun H6 s6 => ?_⟩
  have h56 := s6 _ _ h5
  have hl5 := paired_len hr5
  walk_at "wp"
  have h46 := (s5.trans s6) _ _ h4
  have hr6 := paired_mono (fun _ _ h => RowAt.same (s5.trans s6) h) hr4
  have n45 : p4 ≠ p5 := ne_of_none h4 hp5
  refine ⟨.inl ⟨rfl, _, .inl (.inl h56)⟩, _, h56, .inl ⟨rfl, _, .inl (.inl upd_same)⟩, fun p7 hp7 => ?_⟩
  have n57 : p5 ≠ p7 := fun e => by
    rw [← e, upd_same] at hp7
    cases hp7
  refine ⟨_, by rw [upd_ne n57]; exact upd_same, by rw [List.length_reverse, ← hl5]; exact Nat.lt_of_le_of_lt hsz (by decide), ?_⟩
  generalize hH : upd (upd (upd H6 p5 (.lst ys5.reverse)) p7 (.tup [])) p5 (.lst (ys5.reverse ++ [V.ref p7])) = H7
  have f7 : ∀ b o, H4 b = some o → H7 b = some o := fun b o e => by
    have n5 : b ≠ p5 := ne_of_none e hp5
    have e6 := (s5.trans s6) _ _ e
    have n7 : b ≠ p7 := fun z => by
      rw [upd_ne (z ▸ n5 : p7 ≠ p5), ← z, e6] at hp7
      cases hp7
    rw [← hH, upd_ne n5, upd_ne n7, upd_ne n5]
    exact e6
  have hd7 := f7 _ _ h4
  have hr7 := paired_mono (fun _ _ h => RowAt.same f7 h) hr4
  clear hH h46 hr6 h56 hp7
  refine ite2 (fun c => ?_) (fun c => ?_)
  · refine ⟨n, 2, rfl, n0, by omega, .inl rfl, fun p8 ys8 H8 hp8 s8 h8 hr8' => ?_⟩
    have e2 : (2 : Int) = 2 + d := by omega
    rw [e2] at hr8'
    have hd8' := s8 _ _ hd7
    have hr8'' := paired_mono (fun _ _ h => RowAt.same s8 h) hr7
    refine ⟨_, _, .list ((aboveR (2 + d) (List.replicate n.toNat none)).map rowD), rfl, is_list h8 (rows_is hr8') (by rw [List.length_map]; exact hsz), is_list hd8' (rows_is hr8'') (by rw [List.length_map]; exact hsz), fun H9' s9' => ?_⟩
    have hd8 := s9' _ _ hd8'
    have hr8 := paired_mono (fun _ _ h => RowAt.same s9' h) hr8''
    walk_at "wp"
    refine ⟨n, 2 + d, rfl, n0, by omega, hk, fun p9 ys9 H9 hp9 s9 h9 hr9 => ?_⟩
    refine ⟨_, _, .list ((aboveR (2 + d) (List.replicate n.toNat none)).map rowD), rfl, is_list h9 (rows_is hr9) (by rw [List.length_map]; exact hsz), is_list (s9 _ _ hd8) (rows_is (paired_mono (fun _ _ h => RowAt.same s9 h) hr8)) (by rw [List.length_map]; exact hsz), fun H10 s10 => ?_⟩
    walk_at "wp"
    refine ⟨1, 2, rfl, by decide, by decide, .inl rfl, fun p11 ys11 H11 hp11 s11 h11 hr11 => ?_⟩
    intro a1 hp_a1; generalize hh_a1 : upd H11 a1 _ = H12; obtain ⟨s12, g12⟩ := gen_same hp_a1 hh_a1; clear hh_a1
    intro a2 hp_a2; generalize hh_a2 : upd H12 a2 _ = H13; obtain ⟨s13, g13⟩ := gen_same hp_a2 hh_a2; clear hh_a2
    intro a3 hp_a3; generalize hh_a3 : upd H13 a3 _ = H14; obtain ⟨s14, g14⟩ := gen_same hp_a3 hh_a3; clear hh_a3
    intro a4 hp_a4; generalize hh_a4 : upd H14 a4 _ = H15; obtain ⟨s15, g15⟩ := gen_same hp_a4 hh_a4; clear hh_a4
    have u12 := s12.trans (s13.trans (s14.trans s15))
    refine ⟨_, _, .list ([[none], [some 0], [some 1]].map rowD), rfl, is_list (u12 _ _ h11) (rows_is (paired_mono (fun _ _ h => RowAt.same u12 h) hr11)) (by simp), is_list g15 (rows_is (.cons ⟨a1, rfl, (s13.trans (s14.trans s15)) _ _ g12, by simp⟩ (.cons ⟨a2, rfl, (s14.trans s15) _ _ g13, by simp⟩ (.cons ⟨a3, rfl, s15 _ _ g14, by simp⟩ .nil)))) (by simp), fun H16 s16 => q _⟩
  · have hd8 := hd7
    have hr8 := hr7
    refine ⟨n, 2 + d, rfl, n0, by omega, hk, fun p9 ys9 H9 hp9 s9 h9 hr9 => ?_⟩
    refine ⟨_, _, .list ((aboveR (2 + d) (List.replicate n.toNat none)).map rowD), rfl, is_list h9 (rows_is hr9) (by rw [List.length_map]; exact hsz), is_list (s9 _ _ hd8) (rows_is (paired_mono (fun _ _ h => RowAt.same s9 h) hr8)) (by rw [List.length_map]; exact hsz), fun H10 s10 => ?_⟩
    walk_at "wp"
    refine ⟨1, 2, rfl, by decide, by decide, .inl rfl, fun p11 ys11 H11 hp11 s11 h11 hr11 => ?_⟩
    intro a1 hp_a1; generalize hh_a1 : upd H11 a1 _ = H12; obtain ⟨s12, g12⟩ := gen_same hp_a1 hh_a1; clear hh_a1
    intro a2 hp_a2; generalize hh_a2 : upd H12 a2 _ = H13; obtain ⟨s13, g13⟩ := gen_same hp_a2 hh_a2; clear hh_a2
    intro a3 hp_a3; generalize hh_a3 : upd H13 a3 _ = H14; obtain ⟨s14, g14⟩ := gen_same hp_a3 hh_a3; clear hh_a3
    intro a4 hp_a4; generalize hh_a4 : upd H14 a4 _ = H15; obtain ⟨s15, g15⟩ := gen_same hp_a4 hh_a4; clear hh_a4
    have u12 := s12.trans (s13.trans (s14.trans s15))
    refine ⟨_, _, .list ([[none], [some 0], [some 1]].map rowD), rfl, is_list (u12 _ _ h11) (rows_is (paired_mono (fun _ _ h => RowAt.same u12 h) hr11)) (by simp), is_list g15 (rows_is (.cons ⟨a1, rfl, (s13.trans (s14.trans s15)) _ _ g12, by simp⟩ (.cons ⟨a2, rfl, (s14.trans s15) _ _ g13, by simp⟩ (.cons ⟨a3, rfl, s15 _ _ g14, by simp⟩ .nil)))) (by simp), fun H16 s16 => q _⟩
end
end Kx

set_option Elab.async false
set_option linter.all false
set_option maxRecDepth 100000
set_option maxHeartbeats 4000000
namespace Kx
open PySem PySem.Spec PyProof.Rows L2
local macro_rules | `(tactic| walk_at "wp") => `(tactic| simp only [tSeq, tAsg, tC, tVar, tOp, tUn, rI, rI0, rU, tCB, tCons, tNil, tRet, tRetN, tDrop, tLst, tTup, tIf_eq, tIfS_eq, ifk_t, ifk_f, iek_t, iek_f, tTest, tB, tAnd, tOr, tNot, tAndV, tOrV, tNotV, tNext, tSl, rSlL, tPart, tNoPart, gName, gTup, gCons, gNil, gSub, rSetL, tCall, iList, iTup, iRng1, iRng2, rIxL, rIxT, rEq, rNe, scal_ii, scal_bb, scal_ss, scal_nx, scal_xn, RZ.iZipA, rIsiF, rIsiFT, vty_non, vty_bl, vty_int, vty_str, isa_list_list, isa_list_tuple, isa_list_bool, isa_list_int, isa_list_str, isa_tuple_list, isa_tuple_tuple, isa_tuple_bool, isa_tuple_int, isa_tuple_str, isa_dict_list, isa_dict_tuple, isa_dict_bool, isa_dict_int, isa_dict_str, isa_bool_list, isa_bool_tuple, isa_bool_bool, isa_bool_int, isa_bool_str, isa_int_list, isa_int_tuple, isa_int_bool, isa_int_int, isa_int_str, isa_str_list, isa_str_tuple, isa_str_bool, isa_str_int, isa_str_str, isa_non_list, isa_non_tuple, isa_non_bool, isa_non_int, isa_non_str, kc_bool, kc_int, kc_str, kc_list, kc_tuple, upd_same, HO.tup.injEq, HO.lst.injEq, V.ty.injEq, Bool.or_true, Bool.true_or, Bool.or_false, Bool.false_or, sz_0, sz_1, sz_2, sz_3, sz_4, sz_5, sz_6, sz_7, sz_8, sz_9, sz_10, sz_11, sz_12, sz_13, decide_true, decide_false, C8.tCut, tBM, tBM0, rAppend, rTupU, rRepU, rExtend, rReverse, StX.tStar, tLstRg, tRg1, tRg2, tCKw, tLc2_eq, rCatU, rSlU, rRepT, rRep, rCat, tChain, exists_eq, tPar, tCallN,  tDisp, tPairs, rSlS, rLenS, rLenV, rListOf, rTupOf, tM0, tM1, iStr, wipe, tYes, tFor_eq, tLc_eq, L2.start, cxOf, Cx.nox, Cx.wish, List.map_cons, List.map_nil, List.length_cons, List.length_nil, List.replicate, List.cons_append, List.nil_append, List.getElem?_cons_zero, List.getElem?_cons_succ, List.set_cons_zero, List.set_cons_succ, Option.some.injEq, and_assoc, exists_and_left, exists_and_right, exists_eq_left', exists_eq_left, exists_eq, exists_eq', true_and, and_true, Nat.reduceSub, Nat.reduceAdd, V.int.injEq, V.ref.injEq, V.bl.injEq, V.str.injEq, List.cons.injEq, decide_eq_true_eq, reduceCtorEq, false_or, or_false, and_false, false_and, exists_false, exists_const, if_true, if_false, Bool.true_eq_false, Bool.false_eq_true, ite_true, ite_false, Bool.not_true, Bool.not_false, decide_eq_false_iff_not, ne_eq])

section
variable {P : Program} {w : World} {K : PySem.W.Frag} {mg : Str → Option Value} {base : Heap}
def sp_law (K : PySem.W.Frag) : Sp := fun vs H Q _ => ∃ (a : Addr) (ns : List Int), vs = [.ref a] ∧ SqL K H a (ns.map V.int) ∧ ns.length ≤ 63 ∧ ∀ H', Q (.bl true) H'
theorem cutV_len (xs : List V) (lo hi : Option Int) : (cutV xs lo hi).length ≤ xs.length := by
  unfold cutV
  rw [List.length_take, List.length_drop]
  omega
/-- a part of a row is a row -/
theorem cut_row (r : Row) (hi : Option Int) : ∃ r' : Row, cutV (rowV r) none hi = rowV r' ∧ r'.length ≤ r.length := by
  refine ⟨(r.drop (HT.sIx r.length 0 none)).take (HT.sIx r.length r.length hi - HT.sIx r.length 0 none), ?_, ?_⟩
  · unfold cutV rowV
    rw [List.length_map, List.map_take, List.map_drop]
  · rw [List.length_take, List.length_drop]
    omega
theorem row_cut {B : BagId} {H : Hp} {r : Row} {x : V} (hb : Bag B H) (h : RowAt H r x) : RowAt (cut B.b H) r x := by
  obtain ⟨a, rfl, h1, h2⟩ := h
  exact ⟨a, rfl, cut_tup hb h1, h2⟩
theorem ok_law (T : Txt K mg) {fa : Addr} {fd : FuncData} (F : Fun K "law" "law" s_law fa fd) : FnOk P w K mg base CX0 6 fa fd ["_law_script"] (sp_law K) := by
  have G_l_bag : FnOk P w K mg base CX0 1 T.l_bag.f T.l_bag.d ["_law_script"] (sp_bag K) := ok_bag T
  have G_l_draw : FnOk P w K mg base CX0 1 T.l_draw.f T.l_draw.d ["_law_bag_here", "_law_size"] sp_draw := ok_draw T
  have G_l_of : FnOk P w K mg base CX0 2 T.l_of.f T.l_of.d ["_law_bag_here", "_law_things"] (sp_of K) := ok_of T
  have G_l_row : FnOk P w K mg base CX0 3 T.l_row.f T.l_row.d ["_law_bag_here", "_law_n", "_law_base"] (sp_row K) := ok_row T
  have G_l_kin : FnOk P w K mg base CX0 3 T.l_kin.f T.l_kin.d ["_law_bag_here", "_law_row_here", "_law_base"] (sp_kin K) := ok_kin T
  have G_l_rows : FnOk P w K mg base CX0 2 T.l_rows.f T.l_rows.d ["_law_n", "_law_base"] sp_every := ok_l_rows T
  have G_l_pair_so : FnOk P w K mg base CX0 5 T.l_pair_so.f T.l_pair_so.d ["_law_one", "_law_two", "_law_all_rows"] (sp_pair K) := ok_pair_so T
  have G_l_order_so : FnOk P w K mg base CX0 5 T.l_order_so.f T.l_order_so.d ["_law_bag_here", "_law_n", "_law_base"] (sp_turn K) := ok_order_so T
  have G_l_every_so : FnOk P w K mg base CX0 4 T.l_every_so.f T.l_every_so.d ["_law_bag_here"] (sp_last K) := ok_every_so T
  refine F.ok sc_law (fun vs H Q E h => ?_) (fun cdv A outer s H vs Q E hr h => ?_)
  · obtain ⟨a, ns, rfl, _⟩ := h
    rfl
  obtain ⟨a, ns, rfl, hS, hlen, q⟩ := h
  refine ⟨_, (pss_cons (ps_set (i := 1) sc_law.nd rfl (.inl rfl) (pe_call G_l_bag (hr.mono (by omega)) (by rfl) T.l_bag.g T.l_bag.kp T.l_bag.b .nil pass0 (pa_cons (pv 0) pa_nil)))
      (pss_cons (ps_for PassesOwn.never rfl (pi_range1 (by rfl) T.z_range (pa_cons pe_int pa_nil)) (pg_name (i := 2) sc_law.nd rfl (.inl rfl))
      (pss_cons (ps_par (i := 3) (j := 4) (by rfl) sc_law.nd rfl rfl (by decide) rfl rfl (pa_cons (pe_op op_add pe_int (pe_call G_l_draw (hr.mono (by omega)) (by rfl) T.l_draw.g T.l_draw.kp T.l_draw.b .nil pass0 (pa_cons (pv 1) (pa_cons pe_int pa_nil)))) (pa_cons (pe_call G_l_of (hr.mono (by omega)) (by rfl) T.l_of.g T.l_of.kp T.l_of.b .nil pass0 (pa_cons (pv 1) (pa_cons (pe_lst (pa_cons pe_int (pa_cons pe_int (pa_cons pe_int (pa_cons pe_int (pa_cons pe_int (pa_cons pe_int (pa_cons pe_int (pa_cons pe_int pa_nil))))))))) pa_nil))) pa_nil)) (by rfl))
      (pss_cons (ps_set (i := 5) sc_law.nd rfl (.inl rfl) (pe_ifExp (pt_cmpR op_lt (pv 4) pe_int (nomark _)) (pe_call G_l_rows (hr.mono (by omega)) (by rfl) T.l_rows.g T.l_rows.kp T.l_rows.b .nil pass0 (pa_cons (pv 4) (pa_cons (pv 3) pa_nil))) (pe_lst pa_nil)))
      (pss_cons (ps_set (i := 6) sc_law.nd rfl (.inl rfl) (pe_call G_l_row (hr.mono (by omega)) (by rfl) T.l_row.g T.l_row.kp T.l_row.b .nil pass0 (pa_cons (pv 1) (pa_cons (pv 4) (pa_cons (pv 3) pa_nil)))))
      (pss_cons (ps_set (i := 7) sc_law.nd rfl (.inl rfl) (pe_call G_l_of (hr.mono (by omega)) (by rfl) T.l_of.g T.l_of.kp T.l_of.b .nil pass0 (pa_cons (pv 1) (pa_cons (pe_lst (pa_cons (pe_call G_l_kin (hr.mono (by omega)) (by rfl) T.l_kin.g T.l_kin.kp T.l_kin.b .nil pass0 (pa_cons (pv 1) (pa_cons (pv 6) (pa_cons (pv 3) pa_nil)))) (pa_cons (pe_call G_l_kin (hr.mono (by omega)) (by rfl) T.l_kin.g T.l_kin.kp T.l_kin.b .nil pass0 (pa_cons (pv 1) (pa_cons (pv 6) (pa_cons (pv 3) pa_nil)))) (pa_cons (pe_call G_l_row (hr.mono (by omega)) (by rfl) T.l_row.g T.l_row.kp T.l_row.b .nil pass0 (pa_cons (pv 1) (pa_cons (pv 4) (pa_cons (pv 3) pa_nil)))) pa_nil)))) pa_nil))))
      (pss_cons (ps_if (pt_not (pt_val (pe_call G_l_pair_so (hr.mono (by omega)) (by rfl) T.l_pair_so.g T.l_pair_so.kp T.l_pair_so.b .nil pass0 (pa_cons (pv 6) (pa_cons (pv 7) (pa_cons (pv 5) pa_nil))))))
      (pss_one (ps_ret pe_bl))
      pss_nil)
      (pss_cons (ps_set (i := 8) sc_law.nd rfl (.inl rfl) (pe_ifExp (pt_cmpR op_eq (pe_call G_l_draw (hr.mono (by omega)) (by rfl) T.l_draw.g T.l_draw.kp T.l_draw.b .nil pass0 (pa_cons (pv 1) (pa_cons pe_int pa_nil))) pe_int (nomark _)) (pe_slice sl_tupU (pv 6) po_none (po_some (pe_call G_l_draw (hr.mono (by omega)) (by rfl) T.l_draw.g T.l_draw.kp T.l_draw.b .nil pass0 (pa_cons (pv 1) (pa_cons (pe_op op_add (pv 4) pe_int) pa_nil))))) (pe_op op_catU (pv 6) (pe_call G_l_row (hr.mono (by omega)) (by rfl) T.l_row.g T.l_row.kp T.l_row.b .nil pass0 (pa_cons (pv 1) (pa_cons pe_int (pa_cons (pv 3) pa_nil)))))))
      (pss_one (ps_if (PW.pt (pw_or (pt_not (pt_val (pe_call G_l_pair_so (hr.mono (by omega)) (by rfl) T.l_pair_so.g T.l_pair_so.kp T.l_pair_so.b .nil pass0 (pa_cons (pv 6) (pa_cons (pv 8) (pa_cons (pv 5) pa_nil)))))) (pw_or1 (pt_not (pt_val (pe_call G_l_order_so (hr.mono (by omega)) (by rfl) T.l_order_so.g T.l_order_so.kp T.l_order_so.b .nil pass0 (pa_cons (pv 1) (pa_cons (pv 4) (pa_cons (pv 3) pa_nil)))))))))
      (pss_one (ps_ret pe_bl))
      pss_nil)))))))))
      (pss_one (ps_ret (pe_call G_l_every_so (hr.mono (by omega)) (by rfl) T.l_every_so.g T.l_every_so.kp T.l_every_so.b .nil pass0 (pa_cons (pv 1) pa_nil)))))), ?_⟩
  walk_at "wp"
  refine ⟨a, ns, rfl, hS, hlen, fun B H0 s0 hB0 => ⟨by decide, by decide, ?_⟩⟩
  obtain ⟨Pv, hPv⟩ : ∃ M : L2.St → Hp → Prop, ∀ σ H2, M σ H2 ↔ ∃ z2 z3 z4 z5 z6 z7 z8 : Option V, σ = [some (.ref a), some (.ref B.b), z2, z3, z4, z5, z6, z7, z8] ∧ Bag B H2 := ⟨_, fun _ _ => Iff.rfl⟩
  refine lp_it (walk_range (n := 3)) (fun _ => Pv) ((hPv _ _).mpr ⟨none, none, none, none, none, none, none, rfl, hB0⟩) (fun _ _ _ _ _ => trivial) (fun i x σ H1 H2 hi h hy => ?_) (fun σ H1 h => ?_)
  · obtain ⟨z2, z3, z4, z5, z6, z7, z8, rfl, b1⟩ := (hPv _ _).mp h
    obtain ⟨rfl, rfl⟩ := hy
    walk_at "wp"
    refine ⟨B, _, rfl, b1, by decide, by decide, fun d H3 x3 d0 d1 => ?_⟩
    walk_at "wp"
    intro p4 hp_p4; generalize hh_p4 : upd H3 p4 _ = H4; obtain ⟨x4, g4⟩ := gen_new x3.bag hp_p4 hh_p4; clear hh_p4
    refine ⟨B, p4, _, rfl, x4.bag, .inl (.inl g4), by simp, by simp, fun nv H5 hm x5 => ?_⟩
    obtain ⟨n, rfl, n0, n1⟩ : ∃ n : Int, nv = .int n ∧ 0 ≤ n ∧ n ≤ 8 := by
      simp only [List.mem_cons, List.not_mem_nil, or_false] at hm
      rcases hm with rfl | rfl | rfl | rfl | rfl | rfl | rfl | rfl <;> exact ⟨_, rfl, by omega, by omega⟩
    have hk : 2 + d = 2 ∨ 2 + d = 3 := by omega
    have y5 := x3.trans (x4.trans x5)
    clear hm x3 x4 x5 g4 hp_p4
    refine ⟨n, rfl, ?_⟩
    refine iek_ext (fun v H6 => ∃ (l : Addr) (rs : List Row) (xs : List V), v = .ref l ∧ Ext B H2 H6 ∧ cut B.b H6 l = some (.lst xs) ∧ Paired (RowAt (cut B.b H6)) rs xs) (fun c R hR => ?_) (fun c R hR => ?_) (fun v H6 hv => ?_)
    · walk_at "wp"
      refine ⟨n, 2 + d, rfl, n0, n1, hk, fun p ys H6 hp s6 h6 hr6 => ?_⟩
      have x6 : Ext B H5 H6 := .of_same y5.bag s6
      exact hR _ _ ⟨p, _, ys, rfl, y5.trans x6, cut_of h6 (y5.bag.fresh hp), paired_mono (fun _ _ h => row_cut x6.bag h) hr6⟩
    · walk_at "wp"
      intro p6 hp_p6; generalize hh_p6 : upd H5 p6 _ = H6; obtain ⟨x6, g6⟩ := gen_new y5.bag hp_p6 hh_p6; clear hh_p6
      exact hR _ _ ⟨p6, [], [], rfl, y5.trans x6, g6, .nil⟩
    · obtain ⟨l, rs, xs, rfl, x6, hl6, hrs⟩ := hv
      refine ⟨B, n, 2 + d, rfl, x6.bag, n0, by omega, hk, fun o r1 H7 _ x7 ho hr1 hro1 => ?_⟩
      refine ⟨B, o, r1, 2 + d, rfl, x7.bag, ho, by omega, hro1, hk, fun k1 r2 H8 x8 hk1 hr2 _ => ?_⟩
      refine ⟨B, o, r1, 2 + d, rfl, x8.bag, x8.same _ _ ho, by omega, hro1, hk, fun k2 r3 H9 x9 hk2 hr3 _ => ?_⟩
      refine ⟨B, n, 2 + d, rfl, x9.bag, n0, by omega, hk, fun k3 r4 H10 _ x10 hk3 hr4 _ => ?_⟩
      intro p11 hp_p11; generalize hh_p11 : upd H10 p11 _ = H11; obtain ⟨x11, g11⟩ := gen_new x10.bag hp_p11 hh_p11; clear hh_p11
      refine ⟨B, p11, _, rfl, x11.bag, .inl (.inl g11), by simp, by simp, fun tw H12 hm x12 => ?_⟩
      obtain ⟨t, r5, rfl, ht, hr5⟩ : ∃ (t : Addr) (r5 : Row), tw = .ref t ∧ cut B.b H12 t = some (.tup (rowV r5)) ∧ r5.length ≤ 8 := by
        simp only [List.mem_cons, List.not_mem_nil, or_false] at hm
        rcases hm with rfl | rfl | rfl
        · exact ⟨k1, r2, rfl, (x9.trans (x10.trans (x11.trans x12))).same _ _ hk1, by omega⟩
        · exact ⟨k2, r3, rfl, (x10.trans (x11.trans x12)).same _ _ hk2, by omega⟩
        · exact ⟨k3, r4, rfl, (x11.trans x12).same _ _ hk3, by omega⟩
      have y12 := x7.trans (x8.trans (x9.trans (x10.trans (x11.trans x12))))
      have ho12 := (x8.trans (x9.trans (x10.trans (x11.trans x12)))).same _ _ ho
      have hl12 := y12.same _ _ hl6
      have hrs12 := paired_mono (fun _ _ h => RowAt.same y12.same h) hrs
      have b12 := x12.bag
      clear hm x7 x8 x9 x10 x11 x12 hk1 hk2 hk3 g11 hp_p11 ho
      refine ⟨o, t, l, r1, r5, rs, xs, rfl, (cut_some ho12).1, (cut_some ht).1, (cut_some hl12).1, paired_mono (fun _ _ h => RowAt.same cut_out h) hrs12, by omega, by omega, fun H13 s13 => ?_⟩
      have x13 : Ext B H12 H13 := .of_same b12 s13
      have ho13 := x13.same _ _ ho12
      have hl13 := x13.same _ _ hl12
      have hrs13 := paired_mono (fun _ _ h => RowAt.same x13.same h) hrs12
      have b13 := x13.bag
      walk_at "wp"
      refine ⟨B, _, rfl, b13, by decide, by decide, fun d2 H14 x14 d20 d21 => ?_⟩
      walk_at "wp"
      have ho14 := x14.same _ _ ho13
      refine iek_ext (fun v H6 => ∃ (g : Addr) (r6 : Row), v = .ref g ∧ Ext B H13 H6 ∧ cut B.b H6 g = some (.tup (rowV r6)) ∧ r6.length ≤ 1000) (fun c R hR => ?_) (fun c R hR => ?_) (fun v H15 hv => ?_)
      · walk_at "wp"
        refine ⟨B, _, rfl, x14.bag, by omega, by omega, fun d3 H15 x15 d30 d31 => ⟨d3, rfl, ?_⟩⟩
        obtain ⟨r6, e6, l6⟩ := cut_row r1 (some d3)
        refine ⟨_, (cut_some (x15.same _ _ ho14)).1, fun g H16 s16 h16 => ?_⟩
        rw [e6] at h16
        have x16 : Ext B H15 H16 := .of_same x15.bag s16
        exact hR _ _ ⟨g, r6, rfl, x14.trans (x15.trans x16), cut_tup x16.bag h16, by omega⟩
      · walk_at "wp"
        refine ⟨B, 1, 2 + d, rfl, x14.bag, by decide, by decide, hk, fun o2 r6 H15 _ x15 ho2 hr6 _ => ?_⟩
        have el1 : (rowV r1).length = r1.length := List.length_map _
        have el6 : (rowV r6).length = r6.length := List.length_map _
        refine ⟨o2, rfl, rowV r1, (cut_some (x15.same _ _ ho14)).1, rowV r6, (cut_some ho2).1, by omega, fun g H16 s16 h16 => ?_⟩
        have x16 : Ext B H15 H16 := .of_same x15.bag s16
        have e16 : rowV r1 ++ rowV r6 = rowV (r1 ++ r6) := by
          unfold rowV
          rw [List.map_append]
        rw [e16] at h16
        exact hR _ _ ⟨g, r1 ++ r6, rfl, x14.trans (x15.trans x16), cut_tup x16.bag h16, by rw [List.length_append]; omega⟩
      · obtain ⟨g, r6, rfl, x15, hg, hg6⟩ := hv
        have ho15 := x15.same _ _ ho13
        have hl15 := x15.same _ _ hl13
        have hrs15 := paired_mono (fun _ _ h => RowAt.same x15.same h) hrs13
        refine ⟨o, g, l, r1, r6, rs, xs, rfl, (cut_some ho15).1, (cut_some hg).1, (cut_some hl15).1, paired_mono (fun _ _ h => RowAt.same cut_out h) hrs15, by omega, hg6, fun H16 s16 => ?_⟩
        have x16 : Ext B H15 H16 := .of_same x15.bag s16
        walk_at "wp"
        refine ⟨B, n, 2 + d, rfl, x16.bag, n0, n1, hk, fun H17 x17 => ?_⟩
        walk_at "wp"
        exact (hPv _ _).mpr ⟨_, _, _, _, _, _, _, rfl, x17.bag⟩
  · obtain ⟨z2, z3, z4, z5, z6, z7, z8, rfl, b1⟩ := (hPv _ _).mp h
    walk_at "wp"
    exact ⟨B, rfl, b1, fun H' => q _⟩
end
end Kx

set_option Elab.async false
set_option linter.all false
set_option maxRecDepth 100000
set_option maxHeartbeats 4000000
namespace Kx
open PySem PySem.Spec PyProof.Rows L2
theorem all_mk {l : PySem.W.OpenLaw} {w : World} {K : PySem.W.Frag} {h : Heap} {mg : Str → Option Value} {fa : Addr} (X : K.In h) (G : h.Ns mainGlobals mg) (hfa : mg "law" = some (.ref fa))
    {f_is_below : Addr} {od_is_below an_is_below : Option Addr} {sl_is_below : Array (Option Value)} {oc_is_below dc_is_below pm_is_below cd_is_below ct_is_below : Value}
    {kV_is_below : Value}
    {f_rows_fit : Addr} {od_rows_fit an_rows_fit : Option Addr} {sl_rows_fit : Array (Option Value)} {oc_rows_fit dc_rows_fit pm_rows_fit cd_rows_fit ct_rows_fit : Value}
    {kV_rows_fit : Value}
    {f_joined : Addr} {od_joined an_joined : Option Addr} {sl_joined : Array (Option Value)} {oc_joined dc_joined pm_joined cd_joined ct_joined : Value}
    {kV_joined : Value}
    {f_common : Addr} {od_common an_common : Option Addr} {sl_common : Array (Option Value)} {oc_common dc_common pm_common cd_common ct_common : Value}
    {kV_common : Value}
    {f_row_rank : Addr} {od_row_rank an_row_rank : Option Addr} {sl_row_rank : Array (Option Value)} {oc_row_rank dc_row_rank pm_row_rank cd_row_rank ct_row_rank : Value}
    {kV_row_rank : Value}
    {f_in_order : Addr} {od_in_order an_in_order : Option Addr} {sl_in_order : Array (Option Value)} {oc_in_order dc_in_order pm_in_order cd_in_order ct_in_order : Value}
    {kV_in_order : Value}
    {f_rows_above : Addr} {od_rows_above an_rows_above : Option Addr} {sl_rows_above : Array (Option Value)} {oc_rows_above dc_rows_above pm_rows_above cd_rows_above ct_rows_above : Value}
    {kV_rows_above : Value}
    {f_every_row : Addr} {od_every_row an_every_row : Option Addr} {sl_every_row : Array (Option Value)} {oc_every_row dc_every_row pm_every_row cd_every_row ct_every_row : Value}
    {D_every_row : Addr}
    {u_every_row_signs : Tok}
    {f_l_bag : Addr} {od_l_bag an_l_bag : Option Addr} {sl_l_bag : Array (Option Value)} {oc_l_bag dc_l_bag pm_l_bag cd_l_bag ct_l_bag : Value}
    {kV_l_bag : Value}
    {f_l_draw : Addr} {od_l_draw an_l_draw : Option Addr} {sl_l_draw : Array (Option Value)} {oc_l_draw dc_l_draw pm_l_draw cd_l_draw ct_l_draw : Value}
    {kV_l_draw : Value}
    {f_l_of : Addr} {od_l_of an_l_of : Option Addr} {sl_l_of : Array (Option Value)} {oc_l_of dc_l_of pm_l_of cd_l_of ct_l_of : Value}
    {kV_l_of : Value}
    {f_l_like : Addr} {od_l_like an_l_like : Option Addr} {sl_l_like : Array (Option Value)} {oc_l_like dc_l_like pm_l_like cd_l_like ct_l_like : Value}
    {kV_l_like : Value}
    {f_l_values : Addr} {od_l_values an_l_values : Option Addr} {sl_l_values : Array (Option Value)} {oc_l_values dc_l_values pm_l_values cd_l_values ct_l_values : Value}
    {kV_l_values : Value}
    {f_l_rows : Addr} {od_l_rows an_l_rows : Option Addr} {sl_l_rows : Array (Option Value)} {oc_l_rows dc_l_rows pm_l_rows cd_l_rows ct_l_rows : Value}
    {kV_l_rows : Value}
    {f_l_below : Addr} {od_l_below an_l_below : Option Addr} {sl_l_below : Array (Option Value)} {oc_l_below dc_l_below pm_l_below cd_l_below ct_l_below : Value}
    {kV_l_below : Value}
    {f_l_fit : Addr} {od_l_fit an_l_fit : Option Addr} {sl_l_fit : Array (Option Value)} {oc_l_fit dc_l_fit pm_l_fit cd_l_fit ct_l_fit : Value}
    {kV_l_fit : Value}
    {f_l_row : Addr} {od_l_row an_l_row : Option Addr} {sl_l_row : Array (Option Value)} {oc_l_row dc_l_row pm_l_row cd_l_row ct_l_row : Value}
    {kV_l_row : Value}
    {f_l_kin : Addr} {od_l_kin an_l_kin : Option Addr} {sl_l_kin : Array (Option Value)} {oc_l_kin dc_l_kin pm_l_kin cd_l_kin ct_l_kin : Value}
    {kV_l_kin : Value}
    {f_l_join : Addr} {od_l_join an_l_join : Option Addr} {sl_l_join : Array (Option Value)} {oc_l_join dc_l_join pm_l_join cd_l_join ct_l_join : Value}
    {kV_l_join : Value}
    {f_l_shared : Addr} {od_l_shared an_l_shared : Option Addr} {sl_l_shared : Array (Option Value)} {oc_l_shared dc_l_shared pm_l_shared cd_l_shared ct_l_shared : Value}
    {kV_l_shared : Value}
    {f_l_pair_so : Addr} {od_l_pair_so an_l_pair_so : Option Addr} {sl_l_pair_so : Array (Option Value)} {oc_l_pair_so dc_l_pair_so pm_l_pair_so cd_l_pair_so ct_l_pair_so : Value}
    {kV_l_pair_so : Value}
    {f_l_row_of : Addr} {od_l_row_of an_l_row_of : Option Addr} {sl_l_row_of : Array (Option Value)} {oc_l_row_of dc_l_row_of pm_l_row_of cd_l_row_of ct_l_row_of : Value}
    {kV_l_row_of : Value}
    {f_l_order_so : Addr} {od_l_order_so an_l_order_so : Option Addr} {sl_l_order_so : Array (Option Value)} {oc_l_order_so dc_l_order_so pm_l_order_so cd_l_order_so ct_l_order_so : Value}
    {kV_l_order_so : Value}
    {f_l_every_so : Addr} {od_l_every_so an_l_every_so : Option Addr} {sl_l_every_so : Array (Option Value)} {oc_l_every_so dc_l_every_so pm_l_every_so cd_l_every_so ct_l_every_so : Value}
    {kV_l_every_so : Value}
    {f_law : Addr} {od_law an_law : Option Addr} {sl_law : Array (Option Value)} {oc_law dc_law pm_law cd_law ct_law : Value}
    {kV_law : Value}
    (h_a_is_below : PySem.W.nsIn K mainGlobals "is_below" = some (some (.ref f_is_below)))
    (h_l_is_below : K.lookup f_is_below = some ⟨oc_is_below, od_is_below, .func (PySem.W.fnOf "is_below" "is_below" (defArgs s_is_below) (defBody s_is_below) (defScope s_is_below) .none kV_is_below dc_is_below pm_is_below an_is_below cd_is_below ct_is_below), sl_is_below⟩)
    (h_c_is_below : PySem.W.codeIn K cd_is_below "is_below" = true)
    (h_k_is_below : PySem.W.keepIn K (.ref f_is_below) = true)
    (h_a_rows_fit : PySem.W.nsIn K mainGlobals "rows_fit" = some (some (.ref f_rows_fit)))
    (h_l_rows_fit : K.lookup f_rows_fit = some ⟨oc_rows_fit, od_rows_fit, .func (PySem.W.fnOf "rows_fit" "rows_fit" (defArgs s_rows_fit) (defBody s_rows_fit) (defScope s_rows_fit) .none kV_rows_fit dc_rows_fit pm_rows_fit an_rows_fit cd_rows_fit ct_rows_fit), sl_rows_fit⟩)
    (h_c_rows_fit : PySem.W.codeIn K cd_rows_fit "rows_fit" = true)
    (h_k_rows_fit : PySem.W.keepIn K (.ref f_rows_fit) = true)
    (h_a_joined : PySem.W.nsIn K mainGlobals "joined" = some (some (.ref f_joined)))
    (h_l_joined : K.lookup f_joined = some ⟨oc_joined, od_joined, .func (PySem.W.fnOf "joined" "joined" (defArgs s_joined) (defBody s_joined) (defScope s_joined) .none kV_joined dc_joined pm_joined an_joined cd_joined ct_joined), sl_joined⟩)
    (h_c_joined : PySem.W.codeIn K cd_joined "joined" = true)
    (h_k_joined : PySem.W.keepIn K (.ref f_joined) = true)
    (h_a_common : PySem.W.nsIn K mainGlobals "common" = some (some (.ref f_common)))
    (h_l_common : K.lookup f_common = some ⟨oc_common, od_common, .func (PySem.W.fnOf "common" "common" (defArgs s_common) (defBody s_common) (defScope s_common) .none kV_common dc_common pm_common an_common cd_common ct_common), sl_common⟩)
    (h_c_common : PySem.W.codeIn K cd_common "common" = true)
    (h_k_common : PySem.W.keepIn K (.ref f_common) = true)
    (h_a_row_rank : PySem.W.nsIn K mainGlobals "row_rank" = some (some (.ref f_row_rank)))
    (h_l_row_rank : K.lookup f_row_rank = some ⟨oc_row_rank, od_row_rank, .func (PySem.W.fnOf "row_rank" "row_rank" (defArgs s_row_rank) (defBody s_row_rank) (defScope s_row_rank) .none kV_row_rank dc_row_rank pm_row_rank an_row_rank cd_row_rank ct_row_rank), sl_row_rank⟩)
    (h_c_row_rank : PySem.W.codeIn K cd_row_rank "row_rank" = true)
    (h_k_row_rank : PySem.W.keepIn K (.ref f_row_rank) = true)
    (h_a_in_order : PySem.W.nsIn K mainGlobals "in_order" = some (some (.ref f_in_order)))
    (h_l_in_order : K.lookup f_in_order = some ⟨oc_in_order, od_in_order, .func (PySem.W.fnOf "in_order" "in_order" (defArgs s_in_order) (defBody s_in_order) (defScope s_in_order) .none kV_in_order dc_in_order pm_in_order an_in_order cd_in_order ct_in_order), sl_in_order⟩)
    (h_c_in_order : PySem.W.codeIn K cd_in_order "in_order" = true)
    (h_k_in_order : PySem.W.keepIn K (.ref f_in_order) = true)
    (h_a_rows_above : PySem.W.nsIn K mainGlobals "rows_above" = some (some (.ref f_rows_above)))
    (h_l_rows_above : K.lookup f_rows_above = some ⟨oc_rows_above, od_rows_above, .func (PySem.W.fnOf "rows_above" "rows_above" (defArgs s_rows_above) (defBody s_rows_above) (defScope s_rows_above) .none kV_rows_above dc_rows_above pm_rows_above an_rows_above cd_rows_above ct_rows_above), sl_rows_above⟩)
    (h_c_rows_above : PySem.W.codeIn K cd_rows_above "rows_above" = true)
    (h_k_rows_above : PySem.W.keepIn K (.ref f_rows_above) = true)
    (h_a_every_row : PySem.W.nsIn K mainGlobals "every_row" = some (some (.ref f_every_row)))
    (h_l_every_row : K.lookup f_every_row = some ⟨oc_every_row, od_every_row, .func (PySem.W.fnOf "every_row" "every_row" (defArgs s_every_row) (defBody s_every_row) (defScope s_every_row) .none (.ref D_every_row) dc_every_row pm_every_row an_every_row cd_every_row ct_every_row), sl_every_row⟩)
    (h_d_every_row_signs : PySem.W.nsIn K D_every_row "signs" = some (some (.int 2 u_every_row_signs)))
    (h_c_every_row : PySem.W.codeIn K cd_every_row "every_row" = true)
    (h_k_every_row : PySem.W.keepIn K (.ref f_every_row) = true)
    (h_a_l_bag : PySem.W.nsIn K mainGlobals "_law_bag" = some (some (.ref f_l_bag)))
    (h_l_l_bag : K.lookup f_l_bag = some ⟨oc_l_bag, od_l_bag, .func (PySem.W.fnOf "_law_bag" "_law_bag" (defArgs s_l_bag) (defBody s_l_bag) (defScope s_l_bag) .none kV_l_bag dc_l_bag pm_l_bag an_l_bag cd_l_bag ct_l_bag), sl_l_bag⟩)
    (h_c_l_bag : PySem.W.codeIn K cd_l_bag "_law_bag" = true)
    (h_k_l_bag : PySem.W.keepIn K (.ref f_l_bag) = true)
    (h_a_l_draw : PySem.W.nsIn K mainGlobals "_law_draw" = some (some (.ref f_l_draw)))
    (h_l_l_draw : K.lookup f_l_draw = some ⟨oc_l_draw, od_l_draw, .func (PySem.W.fnOf "_law_draw" "_law_draw" (defArgs s_l_draw) (defBody s_l_draw) (defScope s_l_draw) .none kV_l_draw dc_l_draw pm_l_draw an_l_draw cd_l_draw ct_l_draw), sl_l_draw⟩)
    (h_c_l_draw : PySem.W.codeIn K cd_l_draw "_law_draw" = true)
    (h_k_l_draw : PySem.W.keepIn K (.ref f_l_draw) = true)
    (h_a_l_of : PySem.W.nsIn K mainGlobals "_law_of" = some (some (.ref f_l_of)))
    (h_l_l_of : K.lookup f_l_of = some ⟨oc_l_of, od_l_of, .func (PySem.W.fnOf "_law_of" "_law_of" (defArgs s_l_of) (defBody s_l_of) (defScope s_l_of) .none kV_l_of dc_l_of pm_l_of an_l_of cd_l_of ct_l_of), sl_l_of⟩)
    (h_c_l_of : PySem.W.codeIn K cd_l_of "_law_of" = true)
    (h_k_l_of : PySem.W.keepIn K (.ref f_l_of) = true)
    (h_a_l_like : PySem.W.nsIn K mainGlobals "_law_like" = some (some (.ref f_l_like)))
    (h_l_l_like : K.lookup f_l_like = some ⟨oc_l_like, od_l_like, .func (PySem.W.fnOf "_law_like" "_law_like" (defArgs s_l_like) (defBody s_l_like) (defScope s_l_like) .none kV_l_like dc_l_like pm_l_like an_l_like cd_l_like ct_l_like), sl_l_like⟩)
    (h_c_l_like : PySem.W.codeIn K cd_l_like "_law_like" = true)
    (h_k_l_like : PySem.W.keepIn K (.ref f_l_like) = true)
    (h_a_l_values : PySem.W.nsIn K mainGlobals "_law_values" = some (some (.ref f_l_values)))
    (h_l_l_values : K.lookup f_l_values = some ⟨oc_l_values, od_l_values, .func (PySem.W.fnOf "_law_values" "_law_values" (defArgs s_l_values) (defBody s_l_values) (defScope s_l_values) .none kV_l_values dc_l_values pm_l_values an_l_values cd_l_values ct_l_values), sl_l_values⟩)
    (h_c_l_values : PySem.W.codeIn K cd_l_values "_law_values" = true)
    (h_k_l_values : PySem.W.keepIn K (.ref f_l_values) = true)
    (h_a_l_rows : PySem.W.nsIn K mainGlobals "_law_rows" = some (some (.ref f_l_rows)))
    (h_l_l_rows : K.lookup f_l_rows = some ⟨oc_l_rows, od_l_rows, .func (PySem.W.fnOf "_law_rows" "_law_rows" (defArgs s_l_rows) (defBody s_l_rows) (defScope s_l_rows) .none kV_l_rows dc_l_rows pm_l_rows an_l_rows cd_l_rows ct_l_rows), sl_l_rows⟩)
    (h_c_l_rows : PySem.W.codeIn K cd_l_rows "_law_rows" = true)
    (h_k_l_rows : PySem.W.keepIn K (.ref f_l_rows) = true)
    (h_a_l_below : PySem.W.nsIn K mainGlobals "_law_below" = some (some (.ref f_l_below)))
    (h_l_l_below : K.lookup f_l_below = some ⟨oc_l_below, od_l_below, .func (PySem.W.fnOf "_law_below" "_law_below" (defArgs s_l_below) (defBody s_l_below) (defScope s_l_below) .none kV_l_below dc_l_below pm_l_below an_l_below cd_l_below ct_l_below), sl_l_below⟩)
    (h_c_l_below : PySem.W.codeIn K cd_l_below "_law_below" = true)
    (h_k_l_below : PySem.W.keepIn K (.ref f_l_below) = true)
    (h_a_l_fit : PySem.W.nsIn K mainGlobals "_law_fit" = some (some (.ref f_l_fit)))
    (h_l_l_fit : K.lookup f_l_fit = some ⟨oc_l_fit, od_l_fit, .func (PySem.W.fnOf "_law_fit" "_law_fit" (defArgs s_l_fit) (defBody s_l_fit) (defScope s_l_fit) .none kV_l_fit dc_l_fit pm_l_fit an_l_fit cd_l_fit ct_l_fit), sl_l_fit⟩)
    (h_c_l_fit : PySem.W.codeIn K cd_l_fit "_law_fit" = true)
    (h_k_l_fit : PySem.W.keepIn K (.ref f_l_fit) = true)
    (h_a_l_row : PySem.W.nsIn K mainGlobals "_law_row" = some (some (.ref f_l_row)))
    (h_l_l_row : K.lookup f_l_row = some ⟨oc_l_row, od_l_row, .func (PySem.W.fnOf "_law_row" "_law_row" (defArgs s_l_row) (defBody s_l_row) (defScope s_l_row) .none kV_l_row dc_l_row pm_l_row an_l_row cd_l_row ct_l_row), sl_l_row⟩)
    (h_c_l_row : PySem.W.codeIn K cd_l_row "_law_row" = true)
    (h_k_l_row : PySem.W.keepIn K (.ref f_l_row) = true)
    (h_a_l_kin : PySem.W.nsIn K mainGlobals "_law_kin" = some (some (.ref f_l_kin)))
    (h_l_l_kin : K.lookup f_l_kin = some ⟨oc_l_kin, od_l_kin, .func (PySem.W.fnOf "_law_kin" "_law_kin" (defArgs s_l_kin) (defBody s_l_kin) (defScope s_l_kin) .none kV_l_kin dc_l_kin pm_l_kin an_l_kin cd_l_kin ct_l_kin), sl_l_kin⟩)
    (h_c_l_kin : PySem.W.codeIn K cd_l_kin "_law_kin" = true)
    (h_k_l_kin : PySem.W.keepIn K (.ref f_l_kin) = true)
    (h_a_l_join : PySem.W.nsIn K mainGlobals "_law_join" = some (some (.ref f_l_join)))
    (h_l_l_join : K.lookup f_l_join = some ⟨oc_l_join, od_l_join, .func (PySem.W.fnOf "_law_join" "_law_join" (defArgs s_l_join) (defBody s_l_join) (defScope s_l_join) .none kV_l_join dc_l_join pm_l_join an_l_join cd_l_join ct_l_join), sl_l_join⟩)
    (h_c_l_join : PySem.W.codeIn K cd_l_join "_law_join" = true)
    (h_k_l_join : PySem.W.keepIn K (.ref f_l_join) = true)
    (h_a_l_shared : PySem.W.nsIn K mainGlobals "_law_shared" = some (some (.ref f_l_shared)))
    (h_l_l_shared : K.lookup f_l_shared = some ⟨oc_l_shared, od_l_shared, .func (PySem.W.fnOf "_law_shared" "_law_shared" (defArgs s_l_shared) (defBody s_l_shared) (defScope s_l_shared) .none kV_l_shared dc_l_shared pm_l_shared an_l_shared cd_l_shared ct_l_shared), sl_l_shared⟩)
    (h_c_l_shared : PySem.W.codeIn K cd_l_shared "_law_shared" = true)
    (h_k_l_shared : PySem.W.keepIn K (.ref f_l_shared) = true)
    (h_a_l_pair_so : PySem.W.nsIn K mainGlobals "_law_pair_so" = some (some (.ref f_l_pair_so)))
    (h_l_l_pair_so : K.lookup f_l_pair_so = some ⟨oc_l_pair_so, od_l_pair_so, .func (PySem.W.fnOf "_law_pair_so" "_law_pair_so" (defArgs s_l_pair_so) (defBody s_l_pair_so) (defScope s_l_pair_so) .none kV_l_pair_so dc_l_pair_so pm_l_pair_so an_l_pair_so cd_l_pair_so ct_l_pair_so), sl_l_pair_so⟩)
    (h_c_l_pair_so : PySem.W.codeIn K cd_l_pair_so "_law_pair_so" = true)
    (h_k_l_pair_so : PySem.W.keepIn K (.ref f_l_pair_so) = true)
    (h_a_l_row_of : PySem.W.nsIn K mainGlobals "_law_row_of" = some (some (.ref f_l_row_of)))
    (h_l_l_row_of : K.lookup f_l_row_of = some ⟨oc_l_row_of, od_l_row_of, .func (PySem.W.fnOf "_law_row_of" "_law_row_of" (defArgs s_l_row_of) (defBody s_l_row_of) (defScope s_l_row_of) .none kV_l_row_of dc_l_row_of pm_l_row_of an_l_row_of cd_l_row_of ct_l_row_of), sl_l_row_of⟩)
    (h_c_l_row_of : PySem.W.codeIn K cd_l_row_of "_law_row_of" = true)
    (h_k_l_row_of : PySem.W.keepIn K (.ref f_l_row_of) = true)
    (h_a_l_order_so : PySem.W.nsIn K mainGlobals "_law_order_so" = some (some (.ref f_l_order_so)))
    (h_l_l_order_so : K.lookup f_l_order_so = some ⟨oc_l_order_so, od_l_order_so, .func (PySem.W.fnOf "_law_order_so" "_law_order_so" (defArgs s_l_order_so) (defBody s_l_order_so) (defScope s_l_order_so) .none kV_l_order_so dc_l_order_so pm_l_order_so an_l_order_so cd_l_order_so ct_l_order_so), sl_l_order_so⟩)
    (h_c_l_order_so : PySem.W.codeIn K cd_l_order_so "_law_order_so" = true)
    (h_k_l_order_so : PySem.W.keepIn K (.ref f_l_order_so) = true)
    (h_a_l_every_so : PySem.W.nsIn K mainGlobals "_law_every_so" = some (some (.ref f_l_every_so)))
    (h_l_l_every_so : K.lookup f_l_every_so = some ⟨oc_l_every_so, od_l_every_so, .func (PySem.W.fnOf "_law_every_so" "_law_every_so" (defArgs s_l_every_so) (defBody s_l_every_so) (defScope s_l_every_so) .none kV_l_every_so dc_l_every_so pm_l_every_so an_l_every_so cd_l_every_so ct_l_every_so), sl_l_every_so⟩)
    (h_c_l_every_so : PySem.W.codeIn K cd_l_every_so "_law_every_so" = true)
    (h_k_l_every_so : PySem.W.keepIn K (.ref f_l_every_so) = true)
    (h_a_law : PySem.W.nsIn K mainGlobals "law" = some (some (.ref f_law)))
    (h_l_law : K.lookup f_law = some ⟨oc_law, od_law, .func (PySem.W.fnOf "law" "law" (defArgs s_law) (defBody s_law) (defScope s_law) .none kV_law dc_law pm_law an_law cd_law ct_law), sl_law⟩)
    (h_c_law : PySem.W.codeIn K cd_law "law" = true)
    (h_k_law : PySem.W.keepIn K (.ref f_law) = true)
    (h_z_all : PySem.W.nsIn K mainGlobals "all" = some none)
    (h_z_len : PySem.W.nsIn K mainGlobals "len" = some none)
    (h_z_zip : PySem.W.nsIn K mainGlobals "zip" = some none)
    (h_z_tuple : PySem.W.nsIn K mainGlobals "tuple" = some none)
    (h_z_sorted : PySem.W.nsIn K mainGlobals "sorted" = some none)
    (h_z_list : PySem.W.nsIn K mainGlobals "list" = some none)
    (h_z_range : PySem.W.nsIn K mainGlobals "range" = some none)
    (h_z_int : PySem.W.nsIn K mainGlobals "int" = some none)
    (h_z_isinstance : PySem.W.nsIn K mainGlobals "isinstance" = some none)
    (h_z_bool : PySem.W.nsIn K mainGlobals "bool" = some none)
    (h_z_str : PySem.W.nsIn K mainGlobals "str" = some none) :
    ∃ fd : FuncData, (∀ (s : Shared) (v : Value), BindsTo s fd ⟨[v], []⟩ [("_law_script", v)]) ∧ ∀ base : Heap, K.In base → base.Ns mainGlobals mg → FnOk l.prog w K mg base CX0 6 fa fd ["_law_script"] (sp_law K) := by
  have e := hfa.symm.trans (PySem.W.mg_of X G h_a_law)
  cases e
  have F_is_below := fun_mk (st := s_is_below) h_l_is_below h_c_is_below h_k_is_below
  have b_is_below := F_is_below.binds (ps := ["one", "other"]) fun _ _ _ _ _ _ us hl => match us, hl with | [_, _], _ => rfl
  have F_rows_fit := fun_mk (st := s_rows_fit) h_l_rows_fit h_c_rows_fit h_k_rows_fit
  have b_rows_fit := F_rows_fit.binds (ps := ["one", "other"]) fun _ _ _ _ _ _ us hl => match us, hl with | [_, _], _ => rfl
  have F_joined := fun_mk (st := s_joined) h_l_joined h_c_joined h_k_joined
  have b_joined := F_joined.binds (ps := ["one", "other"]) fun _ _ _ _ _ _ us hl => match us, hl with | [_, _], _ => rfl
  have F_common := fun_mk (st := s_common) h_l_common h_c_common h_k_common
  have b_common := F_common.binds (ps := ["one", "other"]) fun _ _ _ _ _ _ us hl => match us, hl with | [_, _], _ => rfl
  have F_row_rank := fun_mk (st := s_row_rank) h_l_row_rank h_c_row_rank h_k_row_rank
  have b_row_rank := F_row_rank.binds (ps := ["row"]) fun _ _ _ _ _ _ us hl => match us, hl with | [_], _ => rfl
  have F_in_order := fun_mk (st := s_in_order) h_l_in_order h_c_in_order h_k_in_order
  have b_in_order := F_in_order.binds (ps := ["rows"]) fun _ _ _ _ _ _ us hl => match us, hl with | [_], _ => rfl
  have F_rows_above := fun_mk (st := s_rows_above) h_l_rows_above h_c_rows_above h_k_rows_above
  have b_rows_above := F_rows_above.binds (ps := ["row", "signs"]) fun _ _ _ _ _ _ us hl => match us, hl with | [_, _], _ => rfl
  have D_every_row : DefD K mg "every_row" s_every_row [("signs", .int 2)] := by
    refine ⟨f_every_row, _, ⟨⟨_, _, _, _, _, _, _, _, _, _, rfl, h_l_every_row, h_c_every_row, .inl ⟨rfl, rfl⟩, .inr ⟨_, rfl, fun q hq => ?_⟩⟩, h_k_every_row⟩, PySem.W.mg_of X G h_a_every_row⟩
    simp only [List.mem_cons, List.not_mem_nil, or_false] at hq
    rcases hq with rfl
    · exact ⟨_, h_d_every_row_signs, _, rfl⟩
  have F_l_bag := fun_mk (st := s_l_bag) h_l_l_bag h_c_l_bag h_k_l_bag
  have b_l_bag := F_l_bag.binds (ps := ["_law_script"]) fun _ _ _ _ _ _ us hl => match us, hl with | [_], _ => rfl
  have F_l_draw := fun_mk (st := s_l_draw) h_l_l_draw h_c_l_draw h_k_l_draw
  have b_l_draw := F_l_draw.binds (ps := ["_law_bag_here", "_law_size"]) fun _ _ _ _ _ _ us hl => match us, hl with | [_, _], _ => rfl
  have F_l_of := fun_mk (st := s_l_of) h_l_l_of h_c_l_of h_k_l_of
  have b_l_of := F_l_of.binds (ps := ["_law_bag_here", "_law_things"]) fun _ _ _ _ _ _ us hl => match us, hl with | [_, _], _ => rfl
  have F_l_like := fun_mk (st := s_l_like) h_l_l_like h_c_l_like h_k_l_like
  have b_l_like := F_l_like.binds (ps := ["_law_found", "_law_due"]) fun _ _ _ _ _ _ us hl => match us, hl with | [_, _], _ => rfl
  have F_l_values := fun_mk (st := s_l_values) h_l_l_values h_c_l_values h_k_l_values
  have b_l_values := F_l_values.binds (ps := ["_law_base"]) fun _ _ _ _ _ _ us hl => match us, hl with | [_], _ => rfl
  have F_l_rows := fun_mk (st := s_l_rows) h_l_l_rows h_c_l_rows h_k_l_rows
  have b_l_rows := F_l_rows.binds (ps := ["_law_n", "_law_base"]) fun _ _ _ _ _ _ us hl => match us, hl with | [_, _], _ => rfl
  have F_l_below := fun_mk (st := s_l_below) h_l_l_below h_c_l_below h_k_l_below
  have b_l_below := F_l_below.binds (ps := ["_law_one", "_law_two"]) fun _ _ _ _ _ _ us hl => match us, hl with | [_, _], _ => rfl
  have F_l_fit := fun_mk (st := s_l_fit) h_l_l_fit h_c_l_fit h_k_l_fit
  have b_l_fit := F_l_fit.binds (ps := ["_law_one", "_law_two"]) fun _ _ _ _ _ _ us hl => match us, hl with | [_, _], _ => rfl
  have F_l_row := fun_mk (st := s_l_row) h_l_l_row h_c_l_row h_k_l_row
  have b_l_row := F_l_row.binds (ps := ["_law_bag_here", "_law_n", "_law_base"]) fun _ _ _ _ _ _ us hl => match us, hl with | [_, _, _], _ => rfl
  have F_l_kin := fun_mk (st := s_l_kin) h_l_l_kin h_c_l_kin h_k_l_kin
  have b_l_kin := F_l_kin.binds (ps := ["_law_bag_here", "_law_row_here", "_law_base"]) fun _ _ _ _ _ _ us hl => match us, hl with | [_, _, _], _ => rfl
  have F_l_join := fun_mk (st := s_l_join) h_l_l_join h_c_l_join h_k_l_join
  have b_l_join := F_l_join.binds (ps := ["_law_one", "_law_two"]) fun _ _ _ _ _ _ us hl => match us, hl with | [_, _], _ => rfl
  have F_l_shared := fun_mk (st := s_l_shared) h_l_l_shared h_c_l_shared h_k_l_shared
  have b_l_shared := F_l_shared.binds (ps := ["_law_one", "_law_two"]) fun _ _ _ _ _ _ us hl => match us, hl with | [_, _], _ => rfl
  have F_l_pair_so := fun_mk (st := s_l_pair_so) h_l_l_pair_so h_c_l_pair_so h_k_l_pair_so
  have b_l_pair_so := F_l_pair_so.binds (ps := ["_law_one", "_law_two", "_law_all_rows"]) fun _ _ _ _ _ _ us hl => match us, hl with | [_, _, _], _ => rfl
  have F_l_row_of := fun_mk (st := s_l_row_of) h_l_l_row_of h_c_l_row_of h_k_l_row_of
  have b_l_row_of := F_l_row_of.binds (ps := ["_law_rank"]) fun _ _ _ _ _ _ us hl => match us, hl with | [_], _ => rfl
  have F_l_order_so := fun_mk (st := s_l_order_so) h_l_l_order_so h_c_l_order_so h_k_l_order_so
  have b_l_order_so := F_l_order_so.binds (ps := ["_law_bag_here", "_law_n", "_law_base"]) fun _ _ _ _ _ _ us hl => match us, hl with | [_, _, _], _ => rfl
  have F_l_every_so := fun_mk (st := s_l_every_so) h_l_l_every_so h_c_l_every_so h_k_l_every_so
  have b_l_every_so := F_l_every_so.binds (ps := ["_law_bag_here"]) fun _ _ _ _ _ _ us hl => match us, hl with | [_], _ => rfl
  have F_law := fun_mk (st := s_law) h_l_law h_c_law h_k_law
  have T : Txt K mg := {
    is_below := ⟨_, _, F_is_below, b_is_below, PySem.W.mg_of X G h_a_is_below⟩
    rows_fit := ⟨_, _, F_rows_fit, b_rows_fit, PySem.W.mg_of X G h_a_rows_fit⟩
    joined := ⟨_, _, F_joined, b_joined, PySem.W.mg_of X G h_a_joined⟩
    common := ⟨_, _, F_common, b_common, PySem.W.mg_of X G h_a_common⟩
    row_rank := ⟨_, _, F_row_rank, b_row_rank, PySem.W.mg_of X G h_a_row_rank⟩
    in_order := ⟨_, _, F_in_order, b_in_order, PySem.W.mg_of X G h_a_in_order⟩
    rows_above := ⟨_, _, F_rows_above, b_rows_above, PySem.W.mg_of X G h_a_rows_above⟩
    every_row := D_every_row
    l_bag := ⟨_, _, F_l_bag, b_l_bag, PySem.W.mg_of X G h_a_l_bag⟩
    l_draw := ⟨_, _, F_l_draw, b_l_draw, PySem.W.mg_of X G h_a_l_draw⟩
    l_of := ⟨_, _, F_l_of, b_l_of, PySem.W.mg_of X G h_a_l_of⟩
    l_like := ⟨_, _, F_l_like, b_l_like, PySem.W.mg_of X G h_a_l_like⟩
    l_values := ⟨_, _, F_l_values, b_l_values, PySem.W.mg_of X G h_a_l_values⟩
    l_rows := ⟨_, _, F_l_rows, b_l_rows, PySem.W.mg_of X G h_a_l_rows⟩
    l_below := ⟨_, _, F_l_below, b_l_below, PySem.W.mg_of X G h_a_l_below⟩
    l_fit := ⟨_, _, F_l_fit, b_l_fit, PySem.W.mg_of X G h_a_l_fit⟩
    l_row := ⟨_, _, F_l_row, b_l_row, PySem.W.mg_of X G h_a_l_row⟩
    l_kin := ⟨_, _, F_l_kin, b_l_kin, PySem.W.mg_of X G h_a_l_kin⟩
    l_join := ⟨_, _, F_l_join, b_l_join, PySem.W.mg_of X G h_a_l_join⟩
    l_shared := ⟨_, _, F_l_shared, b_l_shared, PySem.W.mg_of X G h_a_l_shared⟩
    l_pair_so := ⟨_, _, F_l_pair_so, b_l_pair_so, PySem.W.mg_of X G h_a_l_pair_so⟩
    l_row_of := ⟨_, _, F_l_row_of, b_l_row_of, PySem.W.mg_of X G h_a_l_row_of⟩
    l_order_so := ⟨_, _, F_l_order_so, b_l_order_so, PySem.W.mg_of X G h_a_l_order_so⟩
    l_every_so := ⟨_, _, F_l_every_so, b_l_every_so, PySem.W.mg_of X G h_a_l_every_so⟩
    z_all := PySem.W.mg_none_of X G h_z_all
    z_len := PySem.W.mg_none_of X G h_z_len
    z_zip := PySem.W.mg_none_of X G h_z_zip
    z_tuple := PySem.W.mg_none_of X G h_z_tuple
    z_sorted := PySem.W.mg_none_of X G h_z_sorted
    z_list := PySem.W.mg_none_of X G h_z_list
    z_range := PySem.W.mg_none_of X G h_z_range
    z_int := PySem.W.mg_none_of X G h_z_int
    z_isinstance := PySem.W.mg_none_of X G h_z_isinstance
    z_bool := PySem.W.mg_none_of X G h_z_bool
    z_str := PySem.W.mg_none_of X G h_z_str }
  exact ⟨PySem.W.fnOf "law" "law" (defArgs s_law) (defBody s_law) (defScope s_law) .none kV_law dc_law pm_law an_law cd_law ct_law, fun s v => .of_eq rfl, fun base _ _ => ok_law T F_law⟩
end Kx
open PySem PySem.W PyProof.Rows
set_option maxHeartbeats 0 in
theorem PySem.Challenge.cw_neverboxes_k02_whole_rows_in_order_and_j_holds : PySem.Challenge.rw_neverboxes_k02_whole_rows_in_order_and_j.Holds := by
  w_on; o_law; k_head; (case hw => w_witness2)
  k_fill
  refine L2.walk_of (l := PySem.Challenge.rw_neverboxes_k02_whole_rows_in_order_and_j) (n := 63) (k := 6) (x := "_law_script") (CX := fun _ => L2.CX0) (sp := fun w => Kx.sp_law _) rfl (by decide) rfl ⟨rfl, by decide, by decide⟩ (fun w h Y => PySem.W.kIn_of Y) ?F (fun _ _ a ns hl _ hS => ⟨a, ns, rfl, hS, hl, fun _ => rfl⟩) (fun _ _ _ _ _ h => h)
  case F =>
    intro w mg fa h KX G hmg
    refine' Kx.all_mk KX G hmg ?a_is_below ?l_is_below ?c_is_below ?k_is_below ?a_rows_fit ?l_rows_fit ?c_rows_fit ?k_rows_fit ?a_joined ?l_joined ?c_joined ?k_joined ?a_common ?l_common ?c_common ?k_common ?a_row_rank ?l_row_rank ?c_row_rank ?k_row_rank ?a_in_order ?l_in_order ?c_in_order ?k_in_order ?a_rows_above ?l_rows_above ?c_rows_above ?k_rows_above ?a_every_row ?l_every_row ?d_every_row_signs ?c_every_row ?k_every_row ?a_l_bag ?l_l_bag ?c_l_bag ?k_l_bag ?a_l_draw ?l_l_draw ?c_l_draw ?k_l_draw ?a_l_of ?l_l_of ?c_l_of ?k_l_of ?a_l_like ?l_l_like ?c_l_like ?k_l_like ?a_l_values ?l_l_values ?c_l_values ?k_l_values ?a_l_rows ?l_l_rows ?c_l_rows ?k_l_rows ?a_l_below ?l_l_below ?c_l_below ?k_l_below ?a_l_fit ?l_l_fit ?c_l_fit ?k_l_fit ?a_l_row ?l_l_row ?c_l_row ?k_l_row ?a_l_kin ?l_l_kin ?c_l_kin ?k_l_kin ?a_l_join ?l_l_join ?c_l_join ?k_l_join ?a_l_shared ?l_l_shared ?c_l_shared ?k_l_shared ?a_l_pair_so ?l_l_pair_so ?c_l_pair_so ?k_l_pair_so ?a_l_row_of ?l_l_row_of ?c_l_row_of ?k_l_row_of ?a_l_order_so ?l_l_order_so ?c_l_order_so ?k_l_order_so ?a_l_every_so ?l_l_every_so ?c_l_every_so ?k_l_every_so ?a_law ?l_law ?c_law ?k_law ?z_all ?z_len ?z_zip ?z_tuple ?z_sorted ?z_list ?z_range ?z_int ?z_isinstance ?z_bool ?z_str
    (case a_is_below => k_is); (case l_is_below => k_is); (case c_is_below => k_is); (case k_is_below => k_is); (case a_rows_fit => k_is); (case l_rows_fit => k_is)
    (case c_rows_fit => k_is); (case k_rows_fit => k_is); (case a_joined => k_is); (case l_joined => k_is); (case c_joined => k_is); (case k_joined => k_is)
    (case a_common => k_is); (case l_common => k_is); (case c_common => k_is); (case k_common => k_is); (case a_row_rank => k_is); (case l_row_rank => k_is)
    (case c_row_rank => k_is); (case k_row_rank => k_is); (case a_in_order => k_is); (case l_in_order => k_is); (case c_in_order => k_is); (case k_in_order => k_is)
    (case a_rows_above => k_is); (case l_rows_above => k_is); (case c_rows_above => k_is); (case k_rows_above => k_is); (case a_every_row => k_is); (case l_every_row => k_is)
    (case d_every_row_signs => k_is); (case c_every_row => k_is); (case k_every_row => k_is); (case a_l_bag => k_is); (case l_l_bag => k_is); (case c_l_bag => k_is)
    (case k_l_bag => k_is); (case a_l_draw => k_is); (case l_l_draw => k_is); (case c_l_draw => k_is); (case k_l_draw => k_is); (case a_l_of => k_is)
    (case l_l_of => k_is); (case c_l_of => k_is); (case k_l_of => k_is); (case a_l_like => k_is); (case l_l_like => k_is); (case c_l_like => k_is)
    (case k_l_like => k_is); (case a_l_values => k_is); (case l_l_values => k_is); (case c_l_values => k_is); (case k_l_values => k_is); (case a_l_rows => k_is)
    (case l_l_rows => k_is); (case c_l_rows => k_is); (case k_l_rows => k_is); (case a_l_below => k_is); (case l_l_below => k_is); (case c_l_below => k_is)
    (case k_l_below => k_is); (case a_l_fit => k_is); (case l_l_fit => k_is); (case c_l_fit => k_is); (case k_l_fit => k_is); (case a_l_row => k_is)
    (case l_l_row => k_is); (case c_l_row => k_is); (case k_l_row => k_is); (case a_l_kin => k_is); (case l_l_kin => k_is); (case c_l_kin => k_is)
    (case k_l_kin => k_is); (case a_l_join => k_is); (case l_l_join => k_is); (case c_l_join => k_is); (case k_l_join => k_is); (case a_l_shared => k_is)
    (case l_l_shared => k_is); (case c_l_shared => k_is); (case k_l_shared => k_is); (case a_l_pair_so => k_is); (case l_l_pair_so => k_is); (case c_l_pair_so => k_is)
    (case k_l_pair_so => k_is); (case a_l_row_of => k_is); (case l_l_row_of => k_is); (case c_l_row_of => k_is); (case k_l_row_of => k_is); (case a_l_order_so => k_is)
    (case l_l_order_so => k_is); (case c_l_order_so => k_is); (case k_l_order_so => k_is); (case a_l_every_so => k_is); (case l_l_every_so => k_is); (case c_l_every_so => k_is)
    (case k_l_every_so => k_is); (case a_law => k_is); (case l_law => k_is); (case c_law => k_is); (case k_law => k_is); (case z_all => k_is)
    (case z_len => k_is); (case z_zip => k_is); (case z_tuple => k_is); (case z_sorted => k_is); (case z_list => k_is); (case z_range => k_is)
    (case z_int => k_is); (case z_isinstance => k_is); (case z_bool => k_is); (case z_str => k_is)

