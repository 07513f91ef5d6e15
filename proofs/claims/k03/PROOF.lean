import PyProof.Rows.All
import Wide.All
import OpenK.AllK
import Wide.FinOn
import HandS.ForMost
import HandS.IsInst
import HandS.Defaults
import HandS.Conv
import HandS.Zip
import HandS.Walk
import HandS.MakeKwOnly
import HandS.Codes
import PyProof.ListStr
import PyProof.StrOps2
import PySem.Challenge.RW_neverboxes_k03_texts_of_rows
set_option Elab.async false
set_option linter.all false
set_option maxRecDepth 100000
set_option maxHeartbeats 4000000
namespace Kx
open PySem PySem.Spec PyProof.Rows L2
/-! ### the text -/
def topS (i : Nat) : Stmt := PySem.Challenge.pw_neverboxes_k03_texts_of_rows.main.body.getD i (.Pass ⟨0, 0, 0, 0⟩)
abbrev s_row_text : Stmt := topS 4
theorem sc_row_text : FnScope ["row", "value"] ["row"] (defScope s_row_text) := ⟨rfl, rfl, rfl, by decide +kernel, rfl, by decide +kernel, by decide +kernel⟩
abbrev s_read_row : Stmt := topS 5
theorem sc_read_row : FnScope ["text", "signs", "letters", "letter"] ["text", "signs"] (defScope s_read_row) := ⟨rfl, rfl, rfl, by decide +kernel, rfl, by decide +kernel, by decide +kernel⟩
abbrev s_l_bag : Stmt := topS 7
theorem sc_l_bag : FnScope ["_law_script", "_law_seed", "_law_item"] ["_law_script"] (defScope s_l_bag) := ⟨rfl, rfl, rfl, by decide +kernel, rfl, by decide +kernel, by decide +kernel⟩
abbrev s_l_draw : Stmt := topS 8
theorem sc_l_draw : FnScope ["_law_bag_here", "_law_size", "_law_item", "_law_digit"] ["_law_bag_here", "_law_size"] (defScope s_l_draw) := ⟨rfl, rfl, rfl, by decide +kernel, rfl, by decide +kernel, by decide +kernel⟩
abbrev s_l_of : Stmt := topS 9
theorem sc_l_of : FnScope ["_law_bag_here", "_law_things"] ["_law_bag_here", "_law_things"] (defScope s_l_of) := ⟨rfl, rfl, rfl, by decide +kernel, rfl, by decide +kernel, by decide +kernel⟩
abbrev s_l_like : Stmt := topS 10
theorem sc_l_like : FnScope ["_law_found", "_law_due", "_law_a", "_law_b"] ["_law_found", "_law_due"] (defScope s_l_like) := ⟨rfl, rfl, rfl, by decide +kernel, rfl, by decide +kernel, by decide +kernel⟩
abbrev s_l_any : Stmt := topS 11
theorem sc_l_any : FnScope ["_law_bag_here", "_law_deep", "_law_pick", "_law_parts", "_law_k"] ["_law_bag_here", "_law_deep"] (defScope s_l_any) := ⟨rfl, rfl, rfl, by decide +kernel, rfl, by decide +kernel, by decide +kernel⟩
abbrev s_l_values : Stmt := topS 12
theorem sc_l_values : FnScope ["_law_base"] ["_law_base"] (defScope s_l_values) := ⟨rfl, rfl, rfl, by decide +kernel, rfl, by decide +kernel, by decide +kernel⟩
abbrev s_l_row : Stmt := topS 13
theorem sc_l_row : FnScope ["_law_bag_here", "_law_n", "_law_base", "_law_k"] ["_law_bag_here", "_law_n", "_law_base"] (defScope s_l_row) := ⟨rfl, rfl, rfl, by decide +kernel, rfl, by decide +kernel, by decide +kernel⟩
abbrev s_l_text : Stmt := topS 14
theorem sc_l_text : FnScope ["_law_row_here", "_law_v"] ["_law_row_here"] (defScope s_l_text) := ⟨rfl, rfl, rfl, by decide +kernel, rfl, by decide +kernel, by decide +kernel⟩
abbrev s_l_read : Stmt := topS 15
theorem sc_l_read : FnScope ["_law_text_here", "_law_base", "_law_c"] ["_law_text_here", "_law_base"] (defScope s_l_read) := ⟨rfl, rfl, rfl, by decide +kernel, rfl, by decide +kernel, by decide +kernel⟩
abbrev s_l_nearly_text : Stmt := topS 16
theorem sc_l_nearly_text : FnScope ["_law_bag_here", "_law_row_here", "_law_good", "_law_spot", "_law_odd", "_law_bent", "_law_strange", "_law_other"] ["_law_bag_here", "_law_row_here"] (defScope s_l_nearly_text) := ⟨rfl, rfl, rfl, by decide +kernel, rfl, by decide +kernel, by decide +kernel⟩
abbrev s_law : Stmt := topS 17
theorem sc_law : FnScope ["_law_script", "_law_bag_here", "_law_lap", "_law_base", "_law_n", "_law_row_here", "_law_text_here", "_law_dues", "_law_thing", "_law_due", "_law_found"] ["_law_script"] (defScope s_law) := ⟨rfl, rfl, rfl, by decide +kernel, rfl, by decide +kernel, by decide +kernel⟩
/-- a def as it stands behind the top -/
structure DefAt (K : PySem.W.Frag) (mg : Str → Option Value) (x : Str) (st : Stmt) (ps : List Str) where
  f : Addr
  d : FuncData
  F : Fun K x x st f d
  b : Binds K d ps []
  g : mg x = some (.ref f)
theorem DefAt.kp {K : PySem.W.Frag} {mg : Str → Option Value} {x : Str} {st : Stmt} {ps : List Str} (T : DefAt K mg x st ps) : PySem.W.keepIn K (.ref T.f) = true := T.F.kp
/-- a def with keyword-only defaults -/
structure DefD (K : PySem.W.Frag) (mg : Str → Option Value) (x : Str) (st : Stmt) (kws : List (Str × V)) where
  f : Addr
  d : FuncData
  F : FunD K x x (defArgs st) (defBody st) (defScope st) [] kws f d
  g : mg x = some (.ref f)
structure Txt (K : PySem.W.Frag) (mg : Str → Option Value) where
  l_bag : DefAt K mg "_law_bag" s_l_bag ["_law_script"]
  l_draw : DefAt K mg "_law_draw" s_l_draw ["_law_bag_here", "_law_size"]
  l_of : DefAt K mg "_law_of" s_l_of ["_law_bag_here", "_law_things"]
  l_like : DefAt K mg "_law_like" s_l_like ["_law_found", "_law_due"]
  l_any : DefAt K mg "_law_any" s_l_any ["_law_bag_here", "_law_deep"]
  l_values : DefAt K mg "_law_values" s_l_values ["_law_base"]
  l_row : DefAt K mg "_law_row" s_l_row ["_law_bag_here", "_law_n", "_law_base"]
  l_text : DefAt K mg "_law_text" s_l_text ["_law_row_here"]
  l_read : DefAt K mg "_law_read" s_l_read ["_law_text_here", "_law_base"]
  l_nearly_text : DefAt K mg "_law_nearly_text" s_l_nearly_text ["_law_bag_here", "_law_row_here"]
  read_row : DefD K mg "read_row" s_read_row [("signs", .int 2)]
  row_text : DefAt K mg "row_text" s_row_text ["row"]
  u_NO_INPUTS : Value
  c_NO_INPUTS : mg "NO_INPUTS" = some u_NO_INPUTS
  r_NO_INPUTS : RelV (.str ".") u_NO_INPUTS
  u_NEVER : Value
  c_NEVER : mg "NEVER" = some u_NEVER
  r_NEVER : RelV (.str "~") u_NEVER
  u_ROW_LETTERS : Value
  c_ROW_LETTERS : mg "ROW_LETTERS" = some u_ROW_LETTERS
  r_ROW_LETTERS : RelV (.str "~012") u_ROW_LETTERS
  z_len : mg "len" = none
  z_isinstance : mg "isinstance" = none
  z_tuple : mg "tuple" = none
  z_str : mg "str" = none
  z_bool : mg "bool" = none
  z_all : mg "all" = none
  z_zip : mg "zip" = none
  z_range : mg "range" = none
  z_int : mg "int" = none
  z_list : mg "list" = none
/-! ### heaps: all but the bag stays -/
def cut (b : Addr) (H : Hp) : Hp := fun a => if a = b then none else H a
theorem cut_at {b : Addr} {H : Hp} : cut b H b = none := if_pos rfl
theorem cut_ne {b a : Addr} {H : Hp} (h : a ≠ b) : cut b H a = H a := if_neg h
theorem cut_some {b a : Addr} {H : Hp} {o : HO} (h : cut b H a = some o) : H a = some o ∧ a ≠ b := by
  by_cases e : a = b
  · subst e
    rw [cut_at] at h
    cases h
  · rw [cut_ne e] at h
    exact ⟨h, e⟩
theorem cut_of {b a : Addr} {H : Hp} {o : HO} (h : H a = some o) (e : a ≠ b) : cut b H a = some o := by rw [cut_ne e]; exact h
theorem cut_out {b : Addr} {H : Hp} : Same (cut b H) H := fun a o h => (cut_some h).1
/-- the law's own store of numbers: where it stands, its items -/
structure BagId where
  b : Addr
  p : Addr
  ns : List Int
structure Bag (B : BagId) (H : Hp) : Prop where
  ne : B.p ≠ B.b
  items : H B.p = some (.lst (B.ns.map V.int))
  ex : ∃ (i g s c : Int), H B.b = some (.lst [.ref B.p, .int i, .int g, .int s, .int c]) ∧ 0 ≤ i ∧ 0 ≤ g ∧ 0 ≤ s ∧ s < 2147483629
structure Ext (B : BagId) (H H' : Hp) : Prop where
  same : Same (cut B.b H) (cut B.b H')
  bag : Bag B H'
theorem Ext.trans {B : BagId} {H H1 H2 : Hp} (a : Ext B H H1) (c : Ext B H1 H2) : Ext B H H2 := ⟨a.same.trans c.same, c.bag⟩
theorem Ext.refl {B : BagId} {H : Hp} (h : Bag B H) : Ext B H H := ⟨Same.refl _, h⟩
theorem same_upd {H : Hp} {p : Addr} {o : HO} (h : H p = none) : Same H (upd H p o) := fun b x e => by
  rw [upd_ne (ne_of_none e h)]
  exact e
theorem Bag.same {B : BagId} {H H' : Hp} (h : Bag B H) (e : Same H H') : Bag B H' := by
  obtain ⟨i, g, s, c, h1, r⟩ := h.ex
  exact ⟨h.ne, e _ _ h.items, i, g, s, c, e _ _ h1, r⟩
theorem Bag.at {B : BagId} {H : Hp} (h : Bag B H) : ∃ o, H B.b = some o := by
  obtain ⟨i, g, s, c, h1, _⟩ := h.ex
  exact ⟨_, h1⟩
theorem Bag.fresh {B : BagId} {H : Hp} {p : Addr} (h : Bag B H) (n : H p = none) : p ≠ B.b := fun e => by
  obtain ⟨o, ho⟩ := h.at
  rw [e, ho] at n
  cases n
theorem same_cut {b : Addr} {H H' : Hp} (e : Same H H') : Same (cut b H) (cut b H') := fun a o h => by
  obtain ⟨h1, h2⟩ := cut_some h
  exact cut_of (e _ _ h1) h2
theorem Ext.of_same {B : BagId} {H H' : Hp} (h : Bag B H) (e : Same H H') : Ext B H H' := ⟨same_cut e, h.same e⟩
theorem Ext.new {B : BagId} {p : Addr} {H : Hp} {o : HO} (h : Bag B H) (n : H p = none) : Ext B H (upd H p o) := .of_same h (same_upd n)
theorem Ext.free {B : BagId} {H H' : Hp} {p : Addr} (e : Ext B H H') (n : H' p = none) : H p = none := by
  cases q : H p with
  | none => rfl
  | some o =>
    have := e.same _ _ (cut_of q (e.bag.fresh n))
    rw [(cut_some this).1] at n
    cases n
/-- a new object beside the bag -/
theorem cut_new {B : BagId} {p : Addr} {H : Hp} {o : HO} (h : Bag B H) (n : H p = none) : cut B.b (upd H p o) p = some o := cut_of upd_same (h.fresh n)
/-- the bag's own list changed -/
theorem Bag.set {B : BagId} {H : Hp} (h : Bag B H) {i g s c : Int} (h1 : 0 ≤ i) (h2 : 0 ≤ g) (h3 : 0 ≤ s) (h4 : s < 2147483629) : Ext B H (upd H B.b (.lst [.ref B.p, .int i, .int g, .int s, .int c])) :=
  ⟨fun a o e => by
    obtain ⟨e1, e2⟩ := cut_some e
    exact cut_of (by rw [upd_ne e2]; exact e1) e2, h.ne, by rw [upd_ne h.ne]; exact h.items, i, g, s, c, upd_same, h1, h2, h3, h4⟩
theorem int_of_cut {ns : List Int} {lo hi : Option Int} {i : Nat} {x : V} (h : (cutV (ns.map V.int) lo hi)[i]? = some x) : ∃ v : Int, x = .int v := by
  have m := List.mem_of_getElem? h
  unfold cutV at m
  obtain ⟨v, _, e⟩ := List.mem_map.mp (List.mem_of_mem_drop (List.mem_of_mem_take m))
  exact ⟨v, e.symm⟩
def ints_of (xs : List V) : List Int := xs.filterMap fun v => match v with | .int i => some i | _ => none
theorem ints_of_map (ns : List Int) : ints_of (ns.map V.int) = ns := by
  unfold ints_of
  rw [List.filterMap_map]
  exact List.filterMap_some
theorem ints_of_cut {ns : List Int} {lo hi : Option Int} : (ints_of (cutV (ns.map V.int) lo hi)).map V.int = cutV (ns.map V.int) lo hi := by
  unfold cutV
  rw [← List.map_drop, ← List.map_take, ints_of_map]
theorem mod_nn {x m : Int} (h : 0 < m) : 0 ≤ Int.fmod x m ∧ Int.fmod x m < m := by
  rw [Int.fmod_eq_emod_of_nonneg _ (Int.le_of_lt h)]
  exact ⟨Int.emod_nonneg _ (by omega), Int.emod_lt_of_pos _ h⟩
/-! ### the words -/
theorem scal_ii {a b : Int} : scal (.int a) (.int b) = true := rfl
theorem scal_bb {a b : Bool} : scal (.bl a) (.bl b) = true := rfl
theorem scal_ss {a b : Str} : scal (.str a) (.str b) = true := rfl
theorem scal_nx : scal .non .non = true := rfl
theorem scal_xn {a : Int} : scal .non (.int a) = true ∧ scal (.int a) .non = true := ⟨rfl, rfl⟩
def IfK (t u : TS) (D : Ends) (σ : L2.St) (b : Bool) (H : Hp) : Prop := if b = true then t D σ H else u D σ H
theorem tIfS_eq {c : TT} {t u : TS} {D : Ends} {σ : L2.St} {H : Hp} : tIfS c t u D σ H = c σ H (IfK t u D σ) := rfl
theorem ifk {t u : TS} {D : Ends} {σ : L2.St} {H : Hp} {p : Prop} [Decidable p] (h1 : p → t D σ H) (h2 : ¬ p → u D σ H) : IfK t u D σ (decide p) H := by
  unfold IfK
  by_cases h : p
  · rw [decide_eq_true h, if_pos rfl]
    exact h1 h
  · rw [decide_eq_false h, if_neg Bool.false_ne_true]
    exact h2 h
theorem ifkb {t u : TS} {D : Ends} {σ : L2.St} {H : Hp} {b : Bool} (h1 : b = true → t D σ H) (h2 : b = false → u D σ H) : IfK t u D σ b H := by
  cases b with
  | true => exact h1 rfl
  | false => exact h2 rfl
theorem ifk_t {t u : TS} {D : Ends} {σ : L2.St} {H : Hp} : IfK t u D σ true H = t D σ H := if_pos rfl
theorem ifk_f {t u : TS} {D : Ends} {σ : L2.St} {H : Hp} : IfK t u D σ false H = u D σ H := if_neg Bool.false_ne_true
def IeK (ta tb : TE) (σ : L2.St) (Q : VK) (b : Bool) (H : Hp) : Prop := if b = true then ta σ H Q else tb σ H Q
theorem tIf_eq {c : TT} {ta tb : TE} {σ : L2.St} {H : Hp} {Q : VK} : tIf c ta tb σ H Q = c σ H (IeK ta tb σ Q) := rfl
theorem iek {ta tb : TE} {σ : L2.St} {H : Hp} {Q : VK} {p : Prop} [Decidable p] (h1 : p → ta σ H Q) (h2 : ¬ p → tb σ H Q) : IeK ta tb σ Q (decide p) H := by
  unfold IeK
  by_cases h : p
  · rw [decide_eq_true h, if_pos rfl]
    exact h1 h
  · rw [decide_eq_false h, if_neg Bool.false_ne_true]
    exact h2 h
theorem iek_t {ta tb : TE} {σ : L2.St} {H : Hp} {Q : VK} : IeK ta tb σ Q true H = ta σ H Q := if_pos rfl
theorem iek_f {ta tb : TE} {σ : L2.St} {H : Hp} {Q : VK} : IeK ta tb σ Q false H = tb σ H Q := if_neg Bool.false_ne_true
def LpJ (g : TG) (tb : TS) (D : Ends) (σ : L2.St) (J : It) (H1 : Hp) : Prop := ∃ W : Nat → Nat → L2.St → Hp → Prop, (∃ m, W 0 m σ H1) ∧ ∀ i m σ H, W i m σ H →
  (J.stop i H ∧ D.nx σ H) ∨ (J.go i H ∧ ∃ N : L2.St → Hp → Prop, (∀ σ' H', N σ' H' → ∃ m', m' < m ∧ W (i + 1) m' σ' H') ∧ ∀ x H', J.yld i H x H' → g x σ H' fun σ2 H2 => tb { D with nx := N, ct := N, bk := D.nx } σ2 H2)
theorem tFor_eq {wi : TI} {g : TG} {tb : TS} {D : Ends} {σ : L2.St} {H : Hp} : tFor wi g tb D σ H = wi σ H (LpJ g tb D σ) := rfl
def LcJ (g : TG) (tt : TT) (te : TE) (vs : List Nat) (σ : L2.St) (Q : VK) (J : It) (H1 : Hp) : Prop := ∀ D, H1 D = none → ∃ W : Nat → Nat → Hp → Prop, (∃ m, W 0 m (upd H1 D (.lst []))) ∧ ∀ i m H, W i m H →
  (J.stop i H ∧ Q (.ref D) H) ∨ (J.go i H ∧ ∃ Nx : Hp → Prop, (∀ H', Nx H' → ∃ m', m' < m ∧ W (i + 1) m' H') ∧ ∀ x H', J.yld i H x H' → g x (wipe σ vs) H' fun σ2 H2 => wipe σ2 vs = wipe σ vs ∧ tt σ2 H2 fun b H3 =>
    if b = true then te σ2 H3 fun y H4 => ∃ acc, H4 D = some (.lst acc) ∧ acc.length < sizeLine ∧ Nx (upd H4 D (.lst (acc ++ [y]))) else Nx H3)
theorem tLc_eq {wi : TI} {g : TG} {tt : TT} {te : TE} {vs : List Nat} {σ : L2.St} {H : Hp} {Q : VK} : tLc wi g tt te vs σ H Q = wi σ H (LcJ g tt te vs σ Q) := rfl
theorem lp_it {J : It} {n : Nat} {G : Hp → Prop} {Y : Nat → Hp → V → Hp → Prop} (w : Walk J n G Y) {g : TG} {tb : TS} {D : Ends} {σ : L2.St} {H : Hp} (Pv : Nat → L2.St → Hp → Prop) (h0 : Pv 0 σ H) (hG : ∀ i σ H, i ≤ n → Pv i σ H → G H)
    (hs : ∀ i x σ H H', i < n → Pv i σ H → Y i H x H' → g x σ H' fun σ2 H2 => tb { D with nx := Pv (i + 1), ct := Pv (i + 1), bk := D.nx } σ2 H2) (hd : ∀ σ H, Pv n σ H → D.nx σ H) : LpJ g tb D σ J H := for_it w Pv h0 hG hs hd
/-- a comprehension whose items are told without the heap; nothing but new things -/
theorem lcS {J : It} {n : Nat} {G : Hp → Prop} {Y : Nat → Hp → V → Hp → Prop} (w : Walk J n G Y) {g : TG} {te : TE} {vs : List Nat} {σ : L2.St} {H1 : Hp} {Q : VK} (Φ : Nat → V → Prop) (hG : ∀ H, Same H1 H → G H) (hn : n ≤ 100000)
    (hs : ∀ i x H H' (R : V → Hp → Prop), i < n → Same H1 H → Y i H x H' → (∀ y H4, Same H H4 → Φ i y → R y H4) → g x (wipe σ vs) H' fun σ2 H2 => wipe σ2 vs = wipe σ vs ∧ te σ2 H2 R)
    (hd : ∀ D H ys, H1 D = none → Same H1 H → H D = some (.lst ys) → ys.length = n → (∀ i y, ys[i]? = some y → Φ i y) → Q (.ref D) H) : LcJ g tYes te vs σ Q J H1 := by
  intro D hD
  refine lc_it w (fun i H => Same H1 H ∧ ∃ ys, H D = some (.lst ys) ∧ ys.length = i ∧ ∀ i y, ys[i]? = some y → Φ i y) ⟨same_upd hD, [], upd_same, rfl, fun i y e => by simp at e⟩ (fun i H _ h => hG H h.1) (fun i x H H' hi h y => ?_) (fun H h => ?_)
  · obtain ⟨h1, ys, h2, h3, h4⟩ := h
    refine hs i x H H' _ hi h1 y fun z H4 s4 p => ?_
    refine ⟨ys, s4 _ _ h2, by rw [h3]; exact Nat.lt_of_lt_of_le hi (Nat.le_trans hn (by decide)), ?_, ys ++ [z], upd_same, by rw [List.length_append, h3]; rfl, fun j v e => ?_⟩
    · intro a o e
      rw [upd_ne (ne_of_none e hD)]
      exact s4 _ _ (h1 _ _ e)
    · by_cases hj : j < ys.length
      · rw [List.getElem?_append_left hj] at e
        exact h4 j v e
      · rw [List.getElem?_append_right (by omega)] at e
        by_cases hz : j - ys.length = 0
        · rw [hz] at e
          have e1 : z = v := Option.some.inj e
          have e2 : j = i := by omega
          rw [← e1, e2]
          exact p
        · rw [List.getElem?_eq_none (by simp; omega)] at e
          cases e
  · obtain ⟨h1, ys, h2, h3, h4⟩ := h
    exact hd D H ys hD h1 h2 h3 h4
/-- the same beside the bag -/
theorem lcB {B : BagId} {J : It} {n : Nat} {G : Hp → Prop} {Y : Nat → Hp → V → Hp → Prop} (w : Walk J n G Y) {g : TG} {te : TE} {vs : List Nat} {σ : L2.St} {H1 : Hp} {Q : VK} (Φ : Nat → V → Prop) (hb : Bag B H1) (hG : ∀ H, Ext B H1 H → G H) (hn : n ≤ 100000)
    (hs : ∀ i x H H' (R : V → Hp → Prop), i < n → Ext B H1 H → Y i H x H' → (∀ y H4, Ext B H H4 → Φ i y → R y H4) → g x (wipe σ vs) H' fun σ2 H2 => wipe σ2 vs = wipe σ vs ∧ te σ2 H2 R)
    (hd : ∀ D H ys, H1 D = none → Ext B H1 H → cut B.b H D = some (.lst ys) → ys.length = n → (∀ i y, ys[i]? = some y → Φ i y) → Q (.ref D) H) : LcJ g tYes te vs σ Q J H1 := by
  intro D hD
  have hDb : D ≠ B.b := hb.fresh hD
  refine lc_it w (fun i H => Ext B H1 H ∧ ∃ ys, cut B.b H D = some (.lst ys) ∧ ys.length = i ∧ ∀ i y, ys[i]? = some y → Φ i y) ⟨.new hb hD, [], cut_new hb hD, rfl, fun i y e => by simp at e⟩ (fun i H _ h => hG H h.1) (fun i x H H' hi h y => ?_) (fun H h => ?_)
  · obtain ⟨h1, ys, h2, h3, h4⟩ := h
    refine hs i x H H' _ hi h1 y fun z H4 s4 p => ?_
    refine ⟨ys, (cut_some (s4.same _ _ h2)).1, by rw [h3]; exact Nat.lt_of_lt_of_le hi (Nat.le_trans hn (by decide)), ⟨?_, ?_⟩, ys ++ [z], cut_of upd_same hDb, by rw [List.length_append, h3]; rfl, fun j v e => ?_⟩
    · intro a o e
      have e1 := h1.same _ _ e
      have e2 := s4.same _ _ e1
      obtain ⟨e3, e4⟩ := cut_some e2
      have na : a ≠ D := ne_of_none (cut_some e).1 hD
      exact cut_of (by rw [upd_ne na]; exact e3) e4
    · obtain ⟨i, g, s, c, k1, r⟩ := s4.bag.ex
      exact ⟨s4.bag.ne, by rw [upd_ne (ne_of_none hb.items hD)]; exact s4.bag.items, i, g, s, c, by rw [upd_ne (Ne.symm hDb)]; exact k1, r⟩
    · by_cases hj : j < ys.length
      · rw [List.getElem?_append_left hj] at e
        exact h4 j v e
      · rw [List.getElem?_append_right (by omega)] at e
        by_cases hz : j - ys.length = 0
        · rw [hz] at e
          have e1 : z = v := Option.some.inj e
          have e2 : j = i := by omega
          rw [← e1, e2]
          exact p
        · rw [List.getElem?_eq_none (by simp; omega)] at e
          cases e
  · obtain ⟨h1, ys, h2, h3, h4⟩ := h
    exact hd D H ys hD h1 h2 h3 h4
/-! ### the kinds of values -/
def vty (x : V) (H : Hp) : Option String := match x with
  | .non => some "NoneType"
  | .bl _ => some "bool"
  | .int _ => some "int"
  | .str _ => some "str"
  | .ref a => (match H a with
    | some (.lst _) => some "list"
    | some (.tup _) => some "tuple"
    | some (.dK _) => some "dict"
    | _ => none)
  | _ => none
theorem vty_tyx {K : PySem.W.Frag} {x : V} {H : Hp} {n : String} (h : vty x H = some n) : TyX K H x (.type n) := by
  unfold vty at h
  split at h
  · cases h; exact .base .non
  · cases h; exact .base (.bl _)
  · cases h; exact .base (.int _)
  · cases h; exact .base (.str _)
  · rename_i a
    split at h
    · rename_i xs e; cases h; exact .base (.lst e)
    · rename_i xs e; cases h; exact .base (.tup e)
    · rename_i xs e; cases h; exact .base (.dK e)
    · cases h
  · cases h
theorem vty_same {x : V} {H H' : Hp} {n : String} (h : vty x H = some n) (e : Same H H') : vty x H' = some n := by
  cases x with
  | ref a =>
    unfold vty at h ⊢
    cases q : H a with
    | none => simp [q] at h
    | some o =>
      simp only [q] at h
      simp only [e _ _ q]
      exact h
  | _ => exact h
theorem vty_lst {a : Addr} {H : Hp} {xs : List V} (h : H a = some (.lst xs)) : vty (.ref a) H = some "list" := by
  unfold vty; simp only [h]
theorem vty_tup {a : Addr} {H : Hp} {xs : List V} (h : H a = some (.tup xs)) : vty (.ref a) H = some "tuple" := by
  unfold vty; simp only [h]
theorem vty_dK {a : Addr} {H : Hp} {xs : List (Key × V)} (h : H a = some (.dK xs)) : vty (.ref a) H = some "dict" := by
  unfold vty; simp only [h]
theorem vty_non {H : Hp} : vty .non H = some "NoneType" := rfl
theorem vty_bl {H : Hp} {b : Bool} : vty (.bl b) H = some "bool" := rfl
theorem vty_int {H : Hp} {b : Int} : vty (.int b) H = some "int" := rfl
theorem vty_str {H : Hp} {b : Str} : vty (.str b) H = some "str" := rfl
def isaB (n c : String) : Bool := (kitB n c).getD false
theorem isa_list_list : isaB "list" "list" = true := by decide +kernel
theorem isa_list_tuple : isaB "list" "tuple" = false := by decide +kernel
theorem isa_list_bool : isaB "list" "bool" = false := by decide +kernel
theorem isa_list_int : isaB "list" "int" = false := by decide +kernel
theorem isa_list_str : isaB "list" "str" = false := by decide +kernel
theorem isa_tuple_list : isaB "tuple" "list" = false := by decide +kernel
theorem isa_tuple_tuple : isaB "tuple" "tuple" = true := by decide +kernel
theorem isa_tuple_bool : isaB "tuple" "bool" = false := by decide +kernel
theorem isa_tuple_int : isaB "tuple" "int" = false := by decide +kernel
theorem isa_tuple_str : isaB "tuple" "str" = false := by decide +kernel
theorem isa_dict_list : isaB "dict" "list" = false := by decide +kernel
theorem isa_dict_tuple : isaB "dict" "tuple" = false := by decide +kernel
theorem isa_dict_bool : isaB "dict" "bool" = false := by decide +kernel
theorem isa_dict_int : isaB "dict" "int" = false := by decide +kernel
theorem isa_dict_str : isaB "dict" "str" = false := by decide +kernel
theorem isa_bool_list : isaB "bool" "list" = false := by decide +kernel
theorem isa_bool_tuple : isaB "bool" "tuple" = false := by decide +kernel
theorem isa_bool_bool : isaB "bool" "bool" = true := by decide +kernel
theorem isa_bool_int : isaB "bool" "int" = true := by decide +kernel
theorem isa_bool_str : isaB "bool" "str" = false := by decide +kernel
theorem isa_int_list : isaB "int" "list" = false := by decide +kernel
theorem isa_int_tuple : isaB "int" "tuple" = false := by decide +kernel
theorem isa_int_bool : isaB "int" "bool" = false := by decide +kernel
theorem isa_int_int : isaB "int" "int" = true := by decide +kernel
theorem isa_int_str : isaB "int" "str" = false := by decide +kernel
theorem isa_str_list : isaB "str" "list" = false := by decide +kernel
theorem isa_str_tuple : isaB "str" "tuple" = false := by decide +kernel
theorem isa_str_bool : isaB "str" "bool" = false := by decide +kernel
theorem isa_str_int : isaB "str" "int" = false := by decide +kernel
theorem isa_str_str : isaB "str" "str" = true := by decide +kernel
theorem isa_non_list : isaB "NoneType" "list" = false := by decide +kernel
theorem isa_non_tuple : isaB "NoneType" "tuple" = false := by decide +kernel
theorem isa_non_bool : isaB "NoneType" "bool" = false := by decide +kernel
theorem isa_non_int : isaB "NoneType" "int" = false := by decide +kernel
theorem isa_non_str : isaB "NoneType" "str" = false := by decide +kernel
theorem kit_isa {K : PySem.W.Frag} {n c : String} (hm : PySem.W.kitMeta c = true) (hn : (PySem.fastBuiltinMro n).isSome = true) : PySem.W.kitOne K (.type n) (.type c) = some (isaB n c) := by
  show kitB n c = some ((kitB n c).getD false)
  unfold kitB
  split
  · rfl
  · cases e : PySem.fastBuiltinMro n with
    | none => rw [e] at hn; cases hn
    | some l => rfl
def Kn (n : String) : Bool := n ∈ ["NoneType", "bool", "int", "str", "list", "tuple", "dict"]
def Kc (c : String) : Bool := c ∈ ["bool", "int", "str", "list", "tuple"]
theorem kn_mro {n : String} (h : Kn n = true) : (PySem.fastBuiltinMro n).isSome = true := by
  have q : ∀ n ∈ ["NoneType", "bool", "int", "str", "list", "tuple", "dict"], (PySem.fastBuiltinMro n).isSome = true := by decide +kernel
  exact q n (of_decide_eq_true h)
theorem kc_meta {n : String} (h : Kc n = true) : PySem.W.kitMeta n = true := by
  have q : ∀ n ∈ ["bool", "int", "str", "list", "tuple"], PySem.W.kitMeta n = true := by decide +kernel
  exact q n (of_decide_eq_true h)
theorem vty_kn {x : V} {H : Hp} {n : String} (h : vty x H = some n) : Kn n = true := by
  unfold vty at h
  split at h
  · cases h; decide
  · cases h; decide
  · cases h; decide
  · cases h; decide
  · split at h
    · cases h; decide
    · cases h; decide
    · cases h; decide
    · cases h
  · cases h
/-- isinstance(x, T) -/
def rIsiF : List V → Hp → VK → Prop := fun xs H Q => ∃ (x : V) (c : String), xs = [x, .ty c] ∧ Kc c = true ∧ ∃ n, vty x H = some n ∧ Q (.bl (isaB n c)) H
theorem call_isiF {X : Cx} : CallR X (.builtin "isinstance") rIsiF := fun pins s σ H xs us Q I r h => by
  obtain ⟨x, c, rfl, hc, n, hn, q⟩ := h
  exact call_isi pins s σ H _ us Q I r ⟨x, .ty c, .type n, .type c, isaB n c, rfl, .ty c, vty_tyx hn, kit_isa (kc_meta hc) (kn_mro (vty_kn hn)), q⟩
/-- isinstance(x, (T1, T2)) -/
def rIsiFT : List V → Hp → VK → Prop := fun xs H Q => ∃ (x : V) (tp : Addr), xs = [x, .ref tp] ∧ ∃ c d, H tp = some (.tup [.ty c, .ty d]) ∧ Kc c = true ∧ Kc d = true ∧ ∃ n, vty x H = some n ∧ Q (.bl (isaB n c || isaB n d)) H
theorem call_isiFT {X : Cx} : CallR X (.builtin "isinstance") rIsiFT := fun pins s σ H xs us Q I r h => by
  obtain ⟨x, tp, rfl, c, d, hT, hc, hd, n, hn, q⟩ := h
  refine call_isiT pins s σ H _ us Q I r ⟨x, tp, [.ty c, .ty d], .type n, [.type c, .type d], _, rfl, hT, .cons (.ty c) (.cons (.ty d) .nil), vty_tyx hn, ?_, q⟩
  have k1 := kit_isa (K := X.K) (kc_meta hc) (kn_mro (vty_kn hn))
  have k2 := kit_isa (K := X.K) (kc_meta hd) (kn_mro (vty_kn hn))
  refine kitAny_cons k1 (fun e => ?_) (fun e => by rw [e]; rfl)
  rw [e, Bool.false_or]
  exact kitAny_cons k2 (fun e => by rw [e]; rfl) (fun e => e)
theorem pe_tyb {X : Cx} {x : Str} {pos : Pos} (n : String) (hg : Gl X x) (hm : X.mg x = none) (hv : bootBuiltins x = some (.type n)) (hn : x ≠ "__name__" := by decide) (hd : (x == ("__debug__" : Str)) = false := by decide) : PE X (.Name x pos) (tC (.ty n)) := pe_bltn hg hm hv rfl hn hd
/-- the rules that bear K, by name -/
def rLenS (K : PySem.W.Frag) : List V → Hp → VK → Prop := fun xs H Q => ∃ p ys, xs = [.ref p] ∧ (SqL K H p ys ∨ SqT K H p ys) ∧ Q (.int (ys.length : Nat)) H
def rLenV (K : PySem.W.Frag) : List V → Hp → VK → Prop := fun xs H Q => ∃ x n, xs = [x] ∧ LenV K x H n ∧ Q (.int (n : Nat)) H
def rListOf (K : PySem.W.Frag) : List V → Hp → VK → Prop := fun xs H Q => ∃ p ys, xs = [.ref p] ∧ (SqL K H p ys ∨ SqT K H p ys) ∧ ∀ l, H l = none → Q (.ref l) (upd H l (.lst ys))
def rTupOf (K : PySem.W.Frag) : List V → Hp → VK → Prop := fun xs H Q => ∃ p ys, xs = [.ref p] ∧ ((SqL K H p ys ∧ ∀ l, H l = none → Q (.ref l) (upd H l (.tup ys))) ∨ (SqT K H p ys ∧ Q (.ref p) H))
theorem kc_bool : Kc "bool" = true := by decide
theorem kc_int : Kc "int" = true := by decide
theorem kc_str : Kc "str" = true := by decide
theorem kc_list : Kc "list" = true := by decide
theorem kc_tuple : Kc "tuple" = true := by decide
theorem sz_0 : (0 ≤ sizeLine) = True := eq_true (by decide)
theorem sz_1 : (1 ≤ sizeLine) = True := eq_true (by decide)
theorem sz_2 : (2 ≤ sizeLine) = True := eq_true (by decide)
theorem sz_3 : (3 ≤ sizeLine) = True := eq_true (by decide)
theorem sz_4 : (4 ≤ sizeLine) = True := eq_true (by decide)
theorem sz_5 : (5 ≤ sizeLine) = True := eq_true (by decide)
theorem sz_6 : (6 ≤ sizeLine) = True := eq_true (by decide)
theorem sz_7 : (7 ≤ sizeLine) = True := eq_true (by decide)
theorem sz_8 : (8 ≤ sizeLine) = True := eq_true (by decide)
theorem sz_9 : (9 ≤ sizeLine) = True := eq_true (by decide)
theorem sz_10 : (10 ≤ sizeLine) = True := eq_true (by decide)
theorem sz_11 : (11 ≤ sizeLine) = True := eq_true (by decide)
theorem sz_12 : (12 ≤ sizeLine) = True := eq_true (by decide)
theorem sz_13 : (13 ≤ sizeLine) = True := eq_true (by decide)
theorem walk_zipT {K : PySem.W.Frag} {a b : Addr} {xs ys : List V} {n : Nat} (hn : n = min xs.length ys.length) : Walk (RZ.ItzT K a b) n (fun H => SqT K H a xs ∧ SqT K H b ys) (YPair (fun i => xs[i]?) (fun i => ys[i]?)) := by
  subst hn
  refine ⟨fun i _ hi q => ?_, fun _ q => ⟨xs, ys, q.1, q.2, by omega⟩, fun i H v H' _ q y => ?_⟩
  · have h1 : i < xs.length := by omega
    have h2 : i < ys.length := by omega
    exact ⟨xs, ys, xs[i], ys[i], q.1, q.2, by simp [h1], by simp [h2]⟩
  · obtain ⟨T, x, z, h1, h2, h3, h4, h5⟩ := y
    exact ⟨T, x, z, h1, h2, h3, h4 xs q.1, h5 ys q.2⟩
local macro_rules | `(tactic| walk_at "wp") => `(tactic| simp only [tSeq, tAsg, tC, tVar, tOp, tUn, rI, rI0, rU, tCB, tCons, tNil, tRet, tRetN, tDrop, tLst, tTup, tIf_eq, tIfS_eq, ifk_t, ifk_f, iek_t, iek_f, tTest, tB, tAnd, tOr, tNot, tAndV, tOrV, tNotV, tNext, tSl, rSlL, tPart, tNoPart, gName, gTup, gCons, gNil, gSub, rSetL, tCall, iList, iTup, iRng1, iRng2, rIxL, rIxT, rEq, rNe, scal_ii, scal_bb, scal_ss, scal_nx, scal_xn, RZ.iZipA, rIsiF, rIsiFT, vty_non, vty_bl, vty_int, vty_str, isa_list_list, isa_list_tuple, isa_list_bool, isa_list_int, isa_list_str, isa_tuple_list, isa_tuple_tuple, isa_tuple_bool, isa_tuple_int, isa_tuple_str, isa_dict_list, isa_dict_tuple, isa_dict_bool, isa_dict_int, isa_dict_str, isa_bool_list, isa_bool_tuple, isa_bool_bool, isa_bool_int, isa_bool_str, isa_int_list, isa_int_tuple, isa_int_bool, isa_int_int, isa_int_str, isa_str_list, isa_str_tuple, isa_str_bool, isa_str_int, isa_str_str, isa_non_list, isa_non_tuple, isa_non_bool, isa_non_int, isa_non_str, kc_bool, kc_int, kc_str, kc_list, kc_tuple, upd_same, HO.tup.injEq, HO.lst.injEq, V.ty.injEq, Bool.or_true, Bool.true_or, Bool.or_false, Bool.false_or, sz_0, sz_1, sz_2, sz_3, sz_4, sz_5, sz_6, sz_7, sz_8, sz_9, sz_10, sz_11, sz_12, sz_13, decide_true, decide_false, C8.tCut, tPar, tCallN,  tDisp, tPairs, rSlS, rLenS, rLenV, rListOf, rTupOf, tM0, tM1, iStr, wipe, tYes, tFor_eq, tLc_eq, L2.start, cxOf, Cx.nox, Cx.wish, List.map_cons, List.map_nil, List.length_cons, List.length_nil, List.replicate, List.cons_append, List.nil_append, List.getElem?_cons_zero, List.getElem?_cons_succ, List.set_cons_zero, List.set_cons_succ, Option.some.injEq, and_assoc, exists_and_left, exists_and_right, exists_eq_left', exists_eq_left, exists_eq, exists_eq', true_and, and_true, Nat.reduceSub, Nat.reduceAdd, V.int.injEq, V.ref.injEq, V.bl.injEq, V.str.injEq, List.cons.injEq, decide_eq_true_eq, reduceCtorEq, false_or, or_false, and_false, false_and, exists_false, exists_const, if_true, if_false, Bool.true_eq_false, Bool.false_eq_true, ite_true, ite_false, Bool.not_true, Bool.not_false, decide_eq_false_iff_not, ne_eq])

section
variable {P : Program} {w : World} {K : PySem.W.Frag} {mg : Str → Option Value} {base : Heap}
def sp_bag (K : PySem.W.Frag) : Sp := fun vs H Q _ => ∃ (a : Addr) (ns : List Int), vs = [.ref a] ∧ SqL K H a (ns.map V.int) ∧ ns.length ≤ 63 ∧ ∀ (B : BagId) H', Same H H' → Bag B H' → Q (.ref B.b) H'
def sp_draw : Sp := fun vs H Q _ => ∃ (B : BagId) (n : Int), vs = [.ref B.b, .int n] ∧ Bag B H ∧ 0 < n ∧ n < 1073741824 ∧ ∀ k H', Ext B H H' → 0 ≤ k → k < n → Q (.int k) H'
def sp_of (K : PySem.W.Frag) : Sp := fun vs H Q _ => ∃ (B : BagId) (t : Addr) (xs : List V), vs = [.ref B.b, .ref t] ∧ Bag B H ∧ SqL K (cut B.b H) t xs ∧ 0 < xs.length ∧ xs.length < 1000000 ∧ ∀ v H', v ∈ xs → Ext B H H' → Q v H'
theorem call_intI {X : Cx} : CallR X (.type "int") (fun xs H Q => ∃ i, xs = [.int i] ∧ Q (.int i) H) := fun pins s σ H xs us Q I r h => call_int1 pins s σ H xs us Q I r (.inl h)
theorem ok_bag (T : Txt K mg) : FnOk P w K mg base CX0 1 T.l_bag.f T.l_bag.d ["_law_script"] (sp_bag K) := by
  refine T.l_bag.F.ok sc_l_bag (fun vs H Q E h => ?_) (fun cdv A outer s H vs Q E hr h => ?_)
  · obtain ⟨a, ns, rfl, _⟩ := h
    rfl
  obtain ⟨a, ns, rfl, hS, hlen, q⟩ := h
  refine ⟨_, (pss_cons (ps_set (i := 1) sc_l_bag.nd rfl (.inl rfl) pe_int)
      (pss_cons (ps_for PassesOwn.never rfl (pi_list (pe_slice sl_list (pv 0) po_none (po_some pe_int))) (pg_name (i := 2) sc_l_bag.nd rfl (.inl rfl))
      (pss_one (ps_set (i := 1) sc_l_bag.nd rfl (.inl rfl) (pe_op op_modN (pe_callTy call_intI (by rfl) T.z_int (by decide +kernel) (pa_cons (pe_op op_add (pe_op op_add (pe_op op_mul (pv 1) pe_int) (pe_op op_modN (pe_callTy call_intI (by rfl) T.z_int (by decide +kernel) (pa_cons (pv 2) pa_nil)) pe_int)) pe_int) pa_nil)) pe_int))))
      (pss_one (ps_ret (pe_lst (pa_cons (pe_callTy call_list_of (by rfl) T.z_list (by decide +kernel) (pa_cons (pe_slice sl_list (pv 0) po_none (po_some pe_int)) pa_nil)) (pa_cons pe_int (pa_cons pe_int (pa_cons (pv 1) (pa_cons pe_int pa_nil)))))))))), ?_⟩
  walk_at "wp"
  refine ⟨_, hS, fun p hp => ⟨⟨_, .inl (.inl upd_same)⟩, ?_⟩⟩
  refine lp_it (walk_list (xs := cutV (ns.map V.int) none (some 63))) (fun i σ H' => ∃ (y : Int) (z : Option V), σ = [some (.ref a), some (.int y), z] ∧ 0 ≤ y ∧ y < 2147483629 ∧ H' = upd H p (.lst (cutV (ns.map V.int) none (some 63)))) ⟨12047, none, rfl, by decide, by decide, rfl⟩ (fun i σ H' _ h => ?_) (fun i x σ H' H2 hi h hy => ?_) (fun σ H' h => ?_)
  · obtain ⟨y, z, rfl, _, _, rfl⟩ := h
    exact .inl (.inl upd_same)
  · obtain ⟨y, z, rfl, h1, h2, rfl⟩ := h
    obtain ⟨rfl, hx⟩ := hy
    have hxi : ∃ v : Int, x = .int v := int_of_cut hx
    obtain ⟨v, rfl⟩ := hxi
    walk_at "wp"
    have m := mod_nn (x := y * 69621 + v.fmod 2147483587 + 101) (m := 2147483629) (by decide)
    exact ⟨.inl ⟨by omega, by omega⟩, by decide, by decide, m.1, m.2⟩
  · obtain ⟨y, z, rfl, h1, h2, rfl⟩ := h
    walk_at "wp"
    refine ⟨_, (same_upd hp).seq hS, fun p1 hp1 => ⟨_, .inl (.inl (.inl upd_same)), fun l hl b hb => ?_⟩⟩
    refine q ⟨b, l, ints_of (cutV (ns.map V.int) none (some 63))⟩ _ ((same_upd hp).trans ((same_upd hp1).trans ((same_upd hl).trans (same_upd hb)))) ⟨ne_of_none upd_same hb, ?_, 0, 0, y, 0, upd_same, by decide, by decide, h1, h2⟩
    rw [upd_ne (ne_of_none upd_same hb), upd_same, ints_of_cut]
theorem ok_draw (T : Txt K mg) : FnOk P w K mg base CX0 1 T.l_draw.f T.l_draw.d ["_law_bag_here", "_law_size"] sp_draw := by
  refine T.l_draw.F.ok sc_l_draw (fun vs H Q E h => ?_) (fun cdv A outer s H vs Q E hr h => ?_)
  · obtain ⟨B, n, rfl, _⟩ := h
    rfl
  obtain ⟨B, n, rfl, hB, hn0, hn1, q⟩ := h
  obtain ⟨i, g, sd, c, hb, hi, hg, hs0, hs1⟩ := hB.ex
  refine ⟨_, (pss_cons (ps_asg (pe_op op_add (pe_ix ix_list (pv 0) pe_int (fun _ _ => rfl)) pe_int) (pg_sub (pv 0) pe_int set_list))
      (C8.pss_cut (ps_if (PW.pt (pw_and (pt_cmpR op_eq (pe_ix ix_list (pv 0) pe_int (fun _ _ => rfl)) pe_int (nomark _)) (pw_and1 (pt_cmpR op_lt (pe_ix ix_list (pv 0) pe_int (fun _ _ => rfl)) (pe_callB call_len_seq (by rfl) T.z_len PySem.boot_len (pa_cons (pe_ix ix_list (pv 0) pe_int (fun _ _ => rfl)) pa_nil)) (nomark _)))))
      (pss_cons (ps_set (i := 2) sc_l_draw.nd rfl (.inl rfl) (pe_ix ix_list (pe_ix ix_list (pv 0) pe_int (fun _ _ => rfl)) (pe_ix ix_list (pv 0) pe_int (fun _ _ => rfl)) (fun _ _ => rfl)))
      (pss_cons (ps_asg (pe_op op_add (pe_ix ix_list (pv 0) pe_int (fun _ _ => rfl)) pe_int) (pg_sub (pv 0) pe_int set_list))
      (pss_one (ps_if (pt_cmpR op_ge (pv 2) (pe_op op_pow pe_int pe_int) (nomark _))
      (pss_one (ps_asg (pv 2) (pg_sub (pv 0) pe_int set_list)))
      (pss_one (ps_asg (pe_op op_modN (pe_callTy call_intI (by rfl) T.z_int (by decide +kernel) (pa_cons (pe_op op_add (pe_op op_add (pe_op op_mul (pe_ix ix_list (pv 0) pe_int (fun _ _ => rfl)) pe_int) (pe_op op_mul (pe_op op_modN (pe_callTy call_intI (by rfl) T.z_int (by decide +kernel) (pa_cons (pv 2) pa_nil)) pe_int) pe_int)) pe_int) pa_nil)) pe_int) (pg_sub (pv 0) pe_int set_list)))))))
      pss_nil)
      (pss_cons (ps_if (pt_cmpR op_gt (pe_ix ix_list (pv 0) pe_int (fun _ _ => rfl)) pe_int (nomark _))
      (pss_cons (ps_set (i := 3) sc_l_draw.nd rfl (.inl rfl) (pe_op op_modN (pe_callTy call_intI (by rfl) T.z_int (by decide +kernel) (pa_cons (pe_ix ix_list (pv 0) pe_int (fun _ _ => rfl)) pa_nil)) (pv 1)))
      (pss_cons (ps_asg (pe_op op_fdivN (pe_ix ix_list (pv 0) pe_int (fun _ _ => rfl)) (pv 1)) (pg_sub (pv 0) pe_int set_list))
      (pss_one (ps_ret (pv 3)))))
      pss_nil)
      (pss_cons (ps_asg (pe_op op_modN (pe_callTy call_intI (by rfl) T.z_int (by decide +kernel) (pa_cons (pe_op op_add (pe_op op_add (pe_op op_pow (pe_ix ix_list (pv 0) pe_int (fun _ _ => rfl)) pe_int) (pe_op op_mul (pe_ix ix_list (pv 0) pe_int (fun _ _ => rfl)) pe_int)) pe_int) pa_nil)) pe_int) (pg_sub (pv 0) pe_int set_list))
      (pss_one (ps_ret (pe_op op_modN (pe_callTy call_intI (by rfl) T.z_int (by decide +kernel) (pa_cons (pe_op op_add (pe_op op_fdivN (pe_ix ix_list (pv 0) pe_int (fun _ _ => rfl)) pe_int) (pe_op op_mul (pe_op op_modN (pe_callTy call_intI (by rfl) T.z_int (by decide +kernel) (pa_cons (pe_ix ix_list (pv 0) pe_int (fun _ _ => rfl)) pa_nil)) pe_int) pe_int)) pa_nil)) (pv 1)))))))), ?_⟩
  walk_at "wp"
  refine ⟨_, .inl (.inl hb), _, rfl, _, rfl, _, hb, 4, rfl, ?_⟩
  have e1 : Ext B H (upd H B.b (.lst (List.set [.ref B.p, .int i, .int g, .int sd, .int c] 4 (.int (c + 1))))) := hB.set hi hg hs0 hs1
  have b1 : upd H B.b (.lst (List.set [.ref B.p, .int i, .int g, .int sd, .int c] 4 (.int (c + 1)))) B.b = some (.lst [.ref B.p, .int i, .int g, .int sd, .int (c + 1)]) := upd_same
  generalize upd H B.b (.lst (List.set [.ref B.p, .int i, .int g, .int sd, .int c] 4 (.int (c + 1)))) = H1 at e1 b1 ⊢
  -- behind the item that is taken, or not
  obtain ⟨Mid, hMid⟩ : ∃ M : L2.St → Hp → Prop, ∀ σ H2, M σ H2 ↔ ∃ (i g sd : Int) (z1 z2 : Option V), σ = [some (.ref B.b), some (.int n), z1, z2] ∧ Ext B H H2 ∧ 0 ≤ i ∧ 0 ≤ g ∧ 0 ≤ sd ∧ sd < 2147483629 ∧ H2 B.b = some (.lst [.ref B.p, .int i, .int g, .int sd, .int (c + 1)]) := ⟨_, fun _ _ => Iff.rfl⟩
  refine ⟨Mid, ?_, fun σ H2 h => ?_⟩
  · refine ⟨_, .inl (.inl b1), _, rfl, rfl, ?_⟩
    refine ite2 (fun c1 => ?_) (fun c1 => ?_)
    · refine ⟨_, .inl (.inl b1), _, rfl, _, .inl (.inl b1), _, rfl, _, rfl, _, .inl (.inl (.inl e1.bag.items)), _, rfl, ?_⟩
      refine ifk (fun c2 => ?_) (fun c2 => ?_)
      · walk_at "wp"
        rw [List.length_map] at c2
        have hat : atI (B.ns.map V.int) i = some (.int (B.ns[i.toNat]'(by omega))) := at_of (j := i.toNat) (by omega) (by rw [List.getElem?_map, List.getElem?_eq_getElem (by omega)]; rfl)
        generalize B.ns[i.toNat]'(by omega) = v at hat
        refine ⟨_, .inl (.inl b1), _, rfl, _, .inl (.inl b1), _, rfl, _, rfl, _, _, rfl, .inl (.inl e1.bag.items), _, hat, _, .inl (.inl b1), _, rfl, _, rfl, _, b1, 1, rfl, ⟨by decide, by decide, by decide⟩, _, rfl, ?_⟩
        have e2 : Ext B H1 (upd H1 B.b (.lst (List.set [.ref B.p, .int i, .int g, .int sd, .int (c + 1)] 1 (.int (i + 1))))) := e1.bag.set (by omega) hg hs0 hs1
        have b2 : upd H1 B.b (.lst (List.set [.ref B.p, .int i, .int g, .int sd, .int (c + 1)] 1 (.int (i + 1)))) B.b = some (.lst [.ref B.p, .int (i + 1), .int g, .int sd, .int (c + 1)]) := upd_same
        generalize upd H1 B.b (.lst (List.set [.ref B.p, .int i, .int g, .int sd, .int (c + 1)] 1 (.int (i + 1)))) = H2 at e2 b2 ⊢
        refine ifk (fun c3 => ?_) (fun c3 => ?_)
        · walk_at "wp"
          have c4 : (0 : Int) ≤ v := Int.le_trans (by decide) c3
          exact ⟨_, b2, 2, rfl, (hMid _ _).mpr ⟨i + 1, v, sd, _, _, rfl, e1.trans (e2.trans (e2.bag.set (by omega) c4 hs0 hs1)), by omega, c4, hs0, hs1, upd_same⟩⟩
        · walk_at "wp"
          have m := mod_nn (x := sd * 40692 + v.fmod 2147483549 * 30011 + 71) (m := 2147483629) (by decide)
          have m1 := mod_nn (x := v) (m := 2147483549) (by decide)
          exact ⟨_, .inl (.inl b2), _, rfl, _, rfl, .inr ⟨by decide, by decide⟩, by decide, .inr ⟨by decide, by decide⟩, by decide, _, b2, 3, rfl,
            (hMid _ _).mpr ⟨i + 1, g, _, _, _, rfl, e1.trans (e2.trans (e2.bag.set (by omega) hg m.1 m.2)), by omega, hg, m.1, m.2, upd_same⟩⟩
      · try walk_at "wp"
        exact (hMid _ _).mpr ⟨i, g, sd, none, none, rfl, e1, hi, hg, hs0, hs1, b1⟩
    · try walk_at "wp"
      exact (hMid _ _).mpr ⟨i, g, sd, none, none, rfl, e1, hi, hg, hs0, hs1, b1⟩
  · obtain ⟨i, g, sd, z1, z2, rfl, e2, hi, hg, hs0, hs1, b2⟩ := (hMid _ _).mp h
    walk_at "wp"
    refine ⟨_, .inl (.inl b2), _, rfl, _, rfl, ?_⟩
    refine ifk (fun c2 => ?_) (fun c2 => ?_)
    · walk_at "wp"
      have m := mod_nn (x := g) (m := n) hn0
      have hq : 0 ≤ g.fdiv n := Int.fdiv_nonneg hg (Int.le_of_lt hn0)
      exact ⟨_, .inl (.inl b2), _, rfl, _, rfl, by omega, _, .inl (.inl b2), _, rfl, _, rfl, ⟨by omega, by omega⟩, _, b2, 2, rfl, q _ _ (e2.trans (e2.bag.set hi hq hs0 hs1)) m.1 m.2⟩
    · walk_at "wp"
      have m := mod_nn (x := sd ^ (3 : Int).toNat + (c + 1) * 1299721 + 50021) (m := 2147483629) (by decide)
      refine ⟨_, .inl (.inl b2), _, rfl, _, rfl, ⟨by decide, by decide, by omega⟩, _, .inl (.inl b2), _, rfl, _, rfl, .inr ⟨by decide, by decide⟩, by decide, _, b2, 3, rfl, ?_⟩
      generalize (sd ^ (3 : Int).toNat + (c + 1) * 1299721 + 50021).fmod 2147483629 = y at m ⊢
      have e3 := e2.trans (e2.bag.set (i := i) (g := g) (s := y) (c := c + 1) hi hg m.1 m.2)
      have m2 := mod_nn (x := y.fdiv 89 + y.fmod 7907 * 61) (m := n) hn0
      exact ⟨_, .inl (.inl upd_same), _, rfl, _, rfl, ⟨by decide, by decide⟩, _, .inl (.inl upd_same), _, rfl, _, rfl, by decide, .inr ⟨by decide, by decide⟩, by omega, q _ _ e3 m2.1 m2.2⟩
theorem ok_of (T : Txt K mg) : FnOk P w K mg base CX0 2 T.l_of.f T.l_of.d ["_law_bag_here", "_law_things"] (sp_of K) := by
  have G_l_draw : FnOk P w K mg base CX0 1 T.l_draw.f T.l_draw.d ["_law_bag_here", "_law_size"] sp_draw := ok_draw T
  refine T.l_of.F.ok sc_l_of (fun vs H Q E h => ?_) (fun cdv A outer s H vs Q E hr h => ?_)
  · obtain ⟨B, t, xs, rfl, _⟩ := h
    rfl
  obtain ⟨B, t, xs, rfl, hB, hx, h0, h1, q⟩ := h
  refine ⟨_, (pss_one (ps_ret (pe_ix ix_list (pv 1) (pe_call G_l_draw (hr.mono (by omega)) (by rfl) T.l_draw.g T.l_draw.kp T.l_draw.b .nil pass0 (pa_cons (pv 0) (pa_cons (pe_callB call_len_seq (by rfl) T.z_len PySem.boot_len (pa_cons (pv 1) pa_nil)) pa_nil))) (fun _ _ => rfl)))), ?_⟩
  walk_at "wp"
  refine ⟨xs, .inl (cut_out.seq hx), B, _, rfl, hB, by omega, by omega, fun k H' e h1 h2 => ?_⟩
  have hk : k.toNat < xs.length := by omega
  refine ⟨_, k, rfl, cut_out.seq (e.same.seq hx), _, at_of (j := k.toNat) (by omega) (List.getElem?_eq_getElem hk), ?_⟩
  exact q _ _ (List.getElem_mem hk) e
end
end Kx

set_option Elab.async false
set_option linter.all false
set_option maxRecDepth 100000
set_option maxHeartbeats 4000000
namespace Kx
open PySem PySem.Spec PyProof.Rows L2
local macro_rules | `(tactic| walk_at "wp") => `(tactic| simp only [tSeq, tAsg, tC, tVar, tOp, tUn, rI, rI0, rU, tCB, tCons, tNil, tRet, tRetN, tDrop, tLst, tTup, tIf_eq, tIfS_eq, ifk_t, ifk_f, iek_t, iek_f, tTest, tB, tAnd, tOr, tNot, tAndV, tOrV, tNotV, tNext, tSl, rSlL, tPart, tNoPart, gName, gTup, gCons, gNil, gSub, rSetL, tCall, iList, iTup, iRng1, iRng2, rIxL, rIxT, rEq, rNe, scal_ii, scal_bb, scal_ss, scal_nx, scal_xn, RZ.iZipA, rIsiF, rIsiFT, vty_non, vty_bl, vty_int, vty_str, isa_list_list, isa_list_tuple, isa_list_bool, isa_list_int, isa_list_str, isa_tuple_list, isa_tuple_tuple, isa_tuple_bool, isa_tuple_int, isa_tuple_str, isa_dict_list, isa_dict_tuple, isa_dict_bool, isa_dict_int, isa_dict_str, isa_bool_list, isa_bool_tuple, isa_bool_bool, isa_bool_int, isa_bool_str, isa_int_list, isa_int_tuple, isa_int_bool, isa_int_int, isa_int_str, isa_str_list, isa_str_tuple, isa_str_bool, isa_str_int, isa_str_str, isa_non_list, isa_non_tuple, isa_non_bool, isa_non_int, isa_non_str, kc_bool, kc_int, kc_str, kc_list, kc_tuple, upd_same, HO.tup.injEq, HO.lst.injEq, V.ty.injEq, Bool.or_true, Bool.true_or, Bool.or_false, Bool.false_or, sz_0, sz_1, sz_2, sz_3, sz_4, sz_5, sz_6, sz_7, sz_8, sz_9, sz_10, sz_11, sz_12, sz_13, decide_true, decide_false, C8.tCut, tPar, tCallN,  tDisp, tPairs, rSlS, rLenS, rLenV, rListOf, rTupOf, tM0, tM1, iStr, wipe, tYes, tFor_eq, tLc_eq, L2.start, cxOf, Cx.nox, Cx.wish, List.map_cons, List.map_nil, List.length_cons, List.length_nil, List.replicate, List.cons_append, List.nil_append, List.getElem?_cons_zero, List.getElem?_cons_succ, List.set_cons_zero, List.set_cons_succ, Option.some.injEq, and_assoc, exists_and_left, exists_and_right, exists_eq_left', exists_eq_left, exists_eq, exists_eq', true_and, and_true, Nat.reduceSub, Nat.reduceAdd, V.int.injEq, V.ref.injEq, V.bl.injEq, V.str.injEq, List.cons.injEq, decide_eq_true_eq, reduceCtorEq, false_or, or_false, and_false, false_and, exists_false, exists_const, if_true, if_false, Bool.true_eq_false, Bool.false_eq_true, ite_true, ite_false, Bool.not_true, Bool.not_false, decide_eq_false_iff_not, ne_eq])

/-! ### data -/
def Is (H : Hp) : Nat → PyData → V → Prop
  | _, .none, v => v = .non
  | _, .bool b, v => v = .bl b
  | _, .int i, v => v = .int i
  | _, .str x, v => v = .str x
  | n + 1, .list ds, v => ds.length ≤ 1000 ∧ ∃ a xs, v = .ref a ∧ H a = some (.lst xs) ∧ Paired (Is H n) ds xs
  | n + 1, .tuple ds, v => ds.length ≤ 1000 ∧ ∃ a xs, v = .ref a ∧ H a = some (.tup xs) ∧ Paired (Is H n) ds xs
  | _, _, _ => False
theorem paired_mono {α β : Type} {R S : α → β → Prop} (h : ∀ a b, R a b → S a b) : ∀ {as : List α} {bs : List β}, Paired R as bs → Paired S as bs
  | _, _, .nil => .nil
  | _, _, .cons a b => .cons (h _ _ a) (paired_mono h b)
theorem Is.same {H H' : Hp} (e : Same H H') : ∀ {n : Nat} {d : PyData} {v : V}, Is H n d v → Is H' n d v
  | _, .none, _, h => by unfold Is at h ⊢; exact h
  | _, .bool b, _, h => by unfold Is at h ⊢; exact h
  | _, .int i, _, h => by unfold Is at h ⊢; exact h
  | _, .str x, _, h => by unfold Is at h ⊢; exact h
  | n + 1, .list ds, v, h => by
    unfold Is at h ⊢
    obtain ⟨h0, a, xs, h1, h2, h3⟩ := h
    exact ⟨h0, a, xs, h1, e _ _ h2, paired_mono (fun _ _ => Is.same e) h3⟩
  | n + 1, .tuple ds, v, h => by
    unfold Is at h ⊢
    obtain ⟨h0, a, xs, h1, h2, h3⟩ := h
    exact ⟨h0, a, xs, h1, e _ _ h2, paired_mono (fun _ _ => Is.same e) h3⟩
  | 0, .list _, _, h => by unfold Is at h; exact h.elim
  | 0, .tuple _, _, h => by unfold Is at h; exact h.elim
  | _, .dict _, _, h => by unfold Is at h; exact h.elim
theorem Is.up {H : Hp} : ∀ {n : Nat} {d : PyData} {v : V}, Is H n d v → Is H (n + 1) d v
  | _, .none, _, h => by unfold Is at h ⊢; exact h
  | _, .bool b, _, h => by unfold Is at h ⊢; exact h
  | _, .int i, _, h => by unfold Is at h ⊢; exact h
  | _, .str x, _, h => by unfold Is at h ⊢; exact h
  | n + 1, .list ds, v, h => by
    unfold Is at h ⊢
    obtain ⟨h0, a, xs, h1, h2, h3⟩ := h
    exact ⟨h0, a, xs, h1, h2, paired_mono (fun _ _ => Is.up) h3⟩
  | n + 1, .tuple ds, v, h => by
    unfold Is at h ⊢
    obtain ⟨h0, a, xs, h1, h2, h3⟩ := h
    exact ⟨h0, a, xs, h1, h2, paired_mono (fun _ _ => Is.up) h3⟩
  | 0, .list _, _, h => by unfold Is at h; exact h.elim
  | 0, .tuple _, _, h => by unfold Is at h; exact h.elim
  | _, .dict _, _, h => by unfold Is at h; exact h.elim
theorem paired_len {α β : Type} {R : α → β → Prop} : ∀ {as : List α} {bs : List β}, Paired R as bs → as.length = bs.length
  | _, _, .nil => rfl
  | _, _, .cons _ b => congrArg Nat.succ (paired_len b)
theorem paired_at {α β : Type} {R : α → β → Prop} : ∀ {as : List α} {bs : List β}, Paired R as bs → ∀ {i : Nat} {b : β}, bs[i]? = some b → ∃ a, as[i]? = some a ∧ R a b
  | _, _, .nil, _, _, h => by simp at h
  | _, _, .cons a b, 0, _, h => by cases h; exact ⟨_, rfl, a⟩
  | _, _, .cons a b, i + 1, _, h => paired_at b h
section
variable {P : Program} {w : World} {K : PySem.W.Frag} {mg : Str → Option Value} {base : Heap}
def sp_like (n : Nat) : Sp := fun vs H Q _ => ∃ (x y : V) (d : PyData), vs = [x, y] ∧ Is H n d x ∧ Is H n d y ∧ ∀ H', Same H H' → Q (.bl true) H'
def lk : Nat → Sp
  | 0 => fun _ _ _ _ => False
  | n + 1 => sp_like n
theorem none_left {f : Addr} {fd : FuncData} {ps : List Str} {sp : Sp} (no : ∀ vs H Q E, ¬ sp vs H Q E) : FnOk P w K mg base CX0 0 f fd ps sp :=
  ⟨fun vs H Q E h => absurd h (no vs H Q E), fun A outer s H args us vs Q E _ _ _ _ h => absurd h (no vs H Q E)⟩
theorem all_trues : ∀ {zs : List V}, (∀ (i : Nat) (y : V), zs[i]? = some y → y = V.bl true) → zs = (List.replicate zs.length true).map V.bl
  | [], _ => rfl
  | z :: r, h => by
    have e : z = V.bl true := h 0 z rfl
    have ih := all_trues (zs := r) fun i y q => h (i + 1) y q
    rw [e, List.length_cons, List.replicate_succ, List.map_cons, ← ih]
theorem like_comp {m : Nat} {xs ys : List V} {ds : List PyData} {J : It} {G : Hp → Prop} {H1 : Hp} {u v : V} {Q : VK} (w : Walk J ds.length G (YPair (fun i => xs[i]?) (fun i => ys[i]?))) (hG : ∀ H2, Same H1 H2 → G H2)
    (px : Paired (Is H1 m) ds xs) (py : Paired (Is H1 m) ds ys) (q : ∀ H', Same H1 H' → Q (.bl true) H') (hl : ds.length ≤ 1000) :
    LcJ (gTup K 2 (gCons (gName 2) (gCons (gName 3) gNil))) tYes (tCall (lk (m + 1)) [] E0 (tCons (tVar 2) (tCons (tVar 3) tNil))) [2, 3] [some u, some v, none, none] (fun x H1 => rAll K [x] H1 Q) J H1 := by
  refine lcS w (fun i y => y = .bl true) hG (by omega) (fun i x H H' R hi s1 hy k => ?_) (fun D H zs hD s1 hz hlen hall => ?_)
  · obtain ⟨Tt, x1, y1, rfl, nT, rfl, e1, e2⟩ := hy
    walk_at "wp"
    refine ⟨_, .inl (.inl upd_same), ?_⟩
    walk_at "wp"
    obtain ⟨d, d1, d2⟩ := paired_at px e1
    obtain ⟨d', d3, d4⟩ := paired_at py e2
    rw [d1] at d3
    cases d3
    have s2 : Same H1 (upd H Tt (.tup [x1, y1])) := s1.trans (same_upd nT)
    exact ⟨x1, y1, d, rfl, d2.same s2, d4.same s2, fun H' s3 => k _ _ ((same_upd nT).trans s3) rfl⟩
  · refine ⟨D, List.replicate zs.length true, rfl, .inl (.inl (by rw [← all_trues hall]; exact hz)), ?_⟩
    have e : (List.replicate zs.length true).all id = true := by simp
    rw [e]
    exact q _ s1
theorem ok_like (T : Txt K mg) : ∀ n : Nat, FnOk P w K mg base CX0 n T.l_like.f T.l_like.d ["_law_found", "_law_due"] (lk n)
  | 0 => none_left fun _ _ _ _ h => h
  | n + 1 => by
    have G_l_like := ok_like T n
    refine T.l_like.F.ok sc_l_like (fun vs H Q E h => ?_) (fun cdv A outer s H vs Q E hr h => ?_)
    · obtain ⟨x, y, d, rfl, _⟩ := h
      rfl
    obtain ⟨x, y, d, rfl, hx, hy, q⟩ := h
    refine ⟨_, (pss_cons (ps_if (pt_val (pe_callB call_isiFT (by rfl) T.z_isinstance (by decide +kernel) (pa_cons (pv 1) (pa_cons (pe_tup (pa_cons (pe_tyb "list" (by rfl) T.z_list (by decide +kernel)) (pa_cons (pe_tyb "tuple" (by rfl) T.z_tuple (by decide +kernel)) pa_nil))) pa_nil))))
      (pss_cons (ps_if (PW.pt (pw_or (pt_cmpR op_ne (pe_callB call_isiF (by rfl) T.z_isinstance (by decide +kernel) (pa_cons (pv 0) (pa_cons (pe_tyb "list" (by rfl) T.z_list (by decide +kernel)) pa_nil))) (pe_callB call_isiF (by rfl) T.z_isinstance (by decide +kernel) (pa_cons (pv 1) (pa_cons (pe_tyb "list" (by rfl) T.z_list (by decide +kernel)) pa_nil))) (nomark _)) (pw_or1 (pt_cmpR op_ne (pe_callB call_isiF (by rfl) T.z_isinstance (by decide +kernel) (pa_cons (pv 0) (pa_cons (pe_tyb "tuple" (by rfl) T.z_tuple (by decide +kernel)) pa_nil))) (pe_callB call_isiF (by rfl) T.z_isinstance (by decide +kernel) (pa_cons (pv 1) (pa_cons (pe_tyb "tuple" (by rfl) T.z_tuple (by decide +kernel)) pa_nil))) (nomark _)))))
      (pss_one (ps_ret pe_bl))
      pss_nil)
      (pss_one (ps_ret (pe_and (pe_cmpR op_eq (pe_callB call_len (by rfl) T.z_len PySem.boot_len (pa_cons (pv 0) pa_nil)) (pe_callB call_len (by rfl) T.z_len PySem.boot_len (pa_cons (pv 1) pa_nil)) (nomark _)) (pe_one (pe_callB (cr_all rfl) (by rfl) T.z_all (by decide +kernel) (pa_cons (pe_lc (own := [("_law_a", 2), ("_law_b", 3)]) (g := (gTup K 2 (gCons (gName 2) (gCons (gName 3) gNil)))) rfl sc_l_like.nd (RZ.pi_zipA (by rfl) T.z_zip (pa_cons (pv 0) (pa_cons (pv 1) pa_nil))) (blkOk_by (own := [("_law_a", 2), ("_law_b", 3)]) (N := ["_law_found", "_law_due", "_law_a", "_law_b"]) (sc := defScope s_l_like) (by decide +kernel)) (fun _ _ _ _ _ => (pg_tup rfl (pgs_cons (pg_name (i := 2) sc_l_like.nd rfl (.inl rfl)) (pgs_cons (pg_name (i := 3) sc_l_like.nd rfl (.inl rfl)) pgs_nil)))) (fun _ _ _ _ _ => pts_nil) (fun _ _ _ _ _ => (pe_call G_l_like (hr.mono (by omega)) (by rfl) T.l_like.g T.l_like.kp T.l_like.b .nil pass0 (pa_cons (pv 2) (pa_cons (pv 3) pa_nil))))) pa_nil)))))))
      pss_nil)
      (pss_cons (ps_if (PW.pt (pw_or (pt_cmpR op_isN (pv 1) pe_non (nomark _)) (pw_or1 (pt_cmpR op_isN (pv 0) pe_non (nomark _)))))
      (pss_one (ps_ret (pe_and (pe_cmpR op_isN (pv 1) pe_non (nomark _)) (pe_one (pe_cmpR op_isN (pv 0) pe_non (nomark _))))))
      pss_nil)
      (pss_cons (ps_if (PW.pt (pw_or (pt_val (pe_callB call_isiFT (by rfl) T.z_isinstance (by decide +kernel) (pa_cons (pv 0) (pa_cons (pe_tup (pa_cons (pe_tyb "list" (by rfl) T.z_list (by decide +kernel)) (pa_cons (pe_tyb "tuple" (by rfl) T.z_tuple (by decide +kernel)) pa_nil))) pa_nil)))) (pw_or1 (pt_cmpR op_ne (pe_callB call_isiF (by rfl) T.z_isinstance (by decide +kernel) (pa_cons (pv 0) (pa_cons (pe_tyb "bool" (by rfl) T.z_bool (by decide +kernel)) pa_nil))) (pe_callB call_isiF (by rfl) T.z_isinstance (by decide +kernel) (pa_cons (pv 1) (pa_cons (pe_tyb "bool" (by rfl) T.z_bool (by decide +kernel)) pa_nil))) (nomark _)))))
      (pss_one (ps_ret pe_bl))
      pss_nil)
      (pss_cons (ps_if (PW.pt (pw_or (pt_cmpR op_ne (pe_callB call_isiF (by rfl) T.z_isinstance (by decide +kernel) (pa_cons (pv 0) (pa_cons (pe_tyb "str" (by rfl) T.z_str (by decide +kernel)) pa_nil))) (pe_callB call_isiF (by rfl) T.z_isinstance (by decide +kernel) (pa_cons (pv 1) (pa_cons (pe_tyb "str" (by rfl) T.z_str (by decide +kernel)) pa_nil))) (nomark _)) (pw_or1 (pt_cmpR op_ne (pe_callB call_isiF (by rfl) T.z_isinstance (by decide +kernel) (pa_cons (pv 0) (pa_cons (pe_tyb "int" (by rfl) T.z_int (by decide +kernel)) pa_nil))) (pe_callB call_isiF (by rfl) T.z_isinstance (by decide +kernel) (pa_cons (pv 1) (pa_cons (pe_tyb "int" (by rfl) T.z_int (by decide +kernel)) pa_nil))) (nomark _)))))
      (pss_one (ps_ret pe_bl))
      pss_nil)
      (pss_one (ps_ret (pe_cmpR op_eq (pv 0) (pv 1) (nomark _)))))))), ?_⟩
    cases d with
    | none =>
      unfold Is at hx hy
      subst hx hy
      walk_at "wp"
      exact fun p hp => q _ (same_upd hp)
    | bool b =>
      unfold Is at hx hy
      subst hx hy
      walk_at "wp"
      exact fun p hp => fun p2 hp2 => q _ ((same_upd hp).trans (same_upd hp2))
    | int b =>
      unfold Is at hx hy
      subst hx hy
      walk_at "wp"
      exact fun p hp => fun p2 hp2 => q _ ((same_upd hp).trans (same_upd hp2))
    | str b =>
      unfold Is at hx hy
      subst hx hy
      walk_at "wp"
      exact fun p hp => fun p2 hp2 => q _ ((same_upd hp).trans (same_upd hp2))
    | dict b =>
      unfold Is at hx
      exact hx.elim
    | list ds =>
      cases n with
      | zero => unfold Is at hx; exact hx.elim
      | succ m =>
        unfold Is at hx hy
        obtain ⟨hl, a, xs, rfl, ha, pa⟩ := hx
        obtain ⟨_, c, ys, rfl, hc, pc⟩ := hy
        walk_at "wp"
        intro p hp
        have s1 : Same H (upd H p (HO.tup [V.ty "list", V.ty "tuple"])) := same_upd hp
        have va := vty_same (vty_lst ha) s1
        have vc := vty_same (vty_lst hc) s1
        refine ⟨_, vc, ?_⟩
        walk_at "wp"
        refine ⟨_, va, _, vc, ?_⟩
        walk_at "wp"
        refine ⟨_, va, _, vc, ?_⟩
        walk_at "wp"
        have l1 := paired_len pa
        have l2 := paired_len pc
        refine ⟨xs.length, Or.inl ⟨xs, .inl (.inl (s1 _ _ ha)), rfl⟩, ys.length, Or.inl ⟨ys, .inl (.inl (s1 _ _ hc)), rfl⟩, ?_⟩
        have e0 : ((xs.length : Nat) : Int) = (ys.length : Nat) := by rw [← l1, l2]
        rw [if_pos e0]
        refine ⟨xs, ys, .inl ⟨.inl (.inl (s1 _ _ ha)), .inl (.inl (s1 _ _ hc)), ?_⟩⟩
        exact like_comp (walk_zip (xs := xs) (ys := ys) (by omega)) (fun H2 s2 => ⟨.inl (.inl (s2 _ _ (s1 _ _ ha))), .inl (.inl (s2 _ _ (s1 _ _ hc)))⟩) (paired_mono (fun _ _ z => z.same s1) pa) (paired_mono (fun _ _ z => z.same s1) pc) (fun H' s2 => q _ (s1.trans s2)) hl
    | tuple ds =>
      cases n with
      | zero => unfold Is at hx; exact hx.elim
      | succ m =>
        unfold Is at hx hy
        obtain ⟨hl, a, xs, rfl, ha, pa⟩ := hx
        obtain ⟨_, c, ys, rfl, hc, pc⟩ := hy
        walk_at "wp"
        intro p hp
        have s1 : Same H (upd H p (HO.tup [V.ty "list", V.ty "tuple"])) := same_upd hp
        have va := vty_same (vty_tup ha) s1
        have vc := vty_same (vty_tup hc) s1
        refine ⟨_, vc, ?_⟩
        walk_at "wp"
        refine ⟨_, va, _, vc, ?_⟩
        walk_at "wp"
        refine ⟨_, va, _, vc, ?_⟩
        walk_at "wp"
        have l1 := paired_len pa
        have l2 := paired_len pc
        refine ⟨xs.length, Or.inr ⟨xs, .inl (.inl (s1 _ _ ha)), rfl⟩, ys.length, Or.inr ⟨ys, .inl (.inl (s1 _ _ hc)), rfl⟩, ?_⟩
        have e0 : ((xs.length : Nat) : Int) = (ys.length : Nat) := by rw [← l1, l2]
        rw [if_pos e0]
        refine ⟨xs, ys, .inr ⟨.inl (.inl (s1 _ _ ha)), .inl (.inl (s1 _ _ hc)), ?_⟩⟩
        exact like_comp (walk_zipT (xs := xs) (ys := ys) (by omega)) (fun H2 s2 => ⟨.inl (.inl (s2 _ _ (s1 _ _ ha))), .inl (.inl (s2 _ _ (s1 _ _ hc)))⟩) (paired_mono (fun _ _ z => z.same s1) pa) (paired_mono (fun _ _ z => z.same s1) pc) (fun H' s2 => q _ (s1.trans s2)) hl
end
end Kx

set_option Elab.async false
set_option linter.all false
set_option maxRecDepth 100000
set_option maxHeartbeats 4000000
namespace Kx
open PySem PySem.Spec PyProof.Rows L2
local macro_rules | `(tactic| walk_at "wp") => `(tactic| simp only [tSeq, tAsg, tC, tVar, tOp, tUn, rI, rI0, rU, tCB, tCons, tNil, tRet, tRetN, tDrop, tLst, tTup, tIf_eq, tIfS_eq, ifk_t, ifk_f, iek_t, iek_f, tTest, tB, tAnd, tOr, tNot, tAndV, tOrV, tNotV, tNext, tSl, rSlL, tPart, tNoPart, gName, gTup, gCons, gNil, gSub, rSetL, tCall, iList, iTup, iRng1, iRng2, rIxL, rIxT, rEq, rNe, scal_ii, scal_bb, scal_ss, scal_nx, scal_xn, RZ.iZipA, rIsiF, rIsiFT, vty_non, vty_bl, vty_int, vty_str, isa_list_list, isa_list_tuple, isa_list_bool, isa_list_int, isa_list_str, isa_tuple_list, isa_tuple_tuple, isa_tuple_bool, isa_tuple_int, isa_tuple_str, isa_dict_list, isa_dict_tuple, isa_dict_bool, isa_dict_int, isa_dict_str, isa_bool_list, isa_bool_tuple, isa_bool_bool, isa_bool_int, isa_bool_str, isa_int_list, isa_int_tuple, isa_int_bool, isa_int_int, isa_int_str, isa_str_list, isa_str_tuple, isa_str_bool, isa_str_int, isa_str_str, isa_non_list, isa_non_tuple, isa_non_bool, isa_non_int, isa_non_str, kc_bool, kc_int, kc_str, kc_list, kc_tuple, upd_same, HO.tup.injEq, HO.lst.injEq, V.ty.injEq, Bool.or_true, Bool.true_or, Bool.or_false, Bool.false_or, sz_0, sz_1, sz_2, sz_3, sz_4, sz_5, sz_6, sz_7, sz_8, sz_9, sz_10, sz_11, sz_12, sz_13, decide_true, decide_false, C8.tCut, tPar, tCallN,  tDisp, tPairs, rSlS, rLenS, rLenV, rListOf, rTupOf, tM0, tM1, iStr, wipe, tYes, tFor_eq, tLc_eq, L2.start, cxOf, Cx.nox, Cx.wish, List.map_cons, List.map_nil, List.length_cons, List.length_nil, List.replicate, List.cons_append, List.nil_append, List.getElem?_cons_zero, List.getElem?_cons_succ, List.set_cons_zero, List.set_cons_succ, Option.some.injEq, and_assoc, exists_and_left, exists_and_right, exists_eq_left', exists_eq_left, exists_eq, exists_eq', true_and, and_true, Nat.reduceSub, Nat.reduceAdd, V.int.injEq, V.ref.injEq, V.bl.injEq, V.str.injEq, List.cons.injEq, decide_eq_true_eq, reduceCtorEq, false_or, or_false, and_false, false_and, exists_false, exists_const, if_true, if_false, Bool.true_eq_false, Bool.false_eq_true, ite_true, ite_false, Bool.not_true, Bool.not_false, decide_eq_false_iff_not, ne_eq])

/-! ### rows and their texts -/
abbrev Row := List (Option Int)
def valV : Option Int → V
  | none => .non
  | some i => .int i
def rowV (r : Row) : List V := r.map valV
def valD : Option Int → PyData
  | none => .none
  | some i => .int i
def rowD (r : Row) : PyData := .tuple (r.map valD)
def RowOk (k : Int) (r : Row) : Prop := ∀ i, some i ∈ r → 0 ≤ i ∧ i < k
def code : Option Int → Nat
  | none => 126
  | some i => 48 + i.toNat
def txt (r : Row) : Str := if r = [] then ⟨#[46]⟩ else ⟨(r.map code).toArray⟩
def lets (k : Int) : List Nat := [126, 48, 49, 50].take (k + 1).toNat
def dec (c : Nat) : Option Int := if c = 126 then none else some ((c : Int) - 48)
def rd (z : Str) (k : Int) : Option Row := if z = ⟨#[]⟩ then none else if z = ⟨#[46]⟩ then some [] else if (∀ c ∈ z.cps.toList, c ∈ lets k) then some (z.cps.toList.map dec) else none
def optD : Option Row → PyData
  | none => .none
  | some r => rowD r
theorem is_val {H : Hp} {n : Nat} {o : Option Int} : Is H n (valD o) (valV o) := by
  cases o <;> (unfold valD valV Is; rfl)
theorem of_is_val {H : Hp} {n : Nat} {o : Option Int} {v : V} (h : Is H n (valD o) v) : v = valV o := by
  cases o <;> (unfold valD Is at h; exact h)
theorem paired_row {H : Hp} {n : Nat} : ∀ (r : Row), Paired (Is H n) (r.map valD) (rowV r)
  | [] => .nil
  | _ :: r => .cons is_val (paired_row r)
theorem of_paired_row {H : Hp} {n : Nat} : ∀ {r : Row} {xs : List V}, Paired (Is H n) (r.map valD) xs → xs = rowV r
  | [], _, h => by cases h; rfl
  | o :: r, _, h => by
    cases h with
    | cons a b =>
      rw [of_is_val a, of_paired_row b]
      rfl
theorem is_row {H : Hp} {n : Nat} {r : Row} {a : Addr} (h : H a = some (.tup (rowV r))) (hl : r.length ≤ 1000) : Is H (n + 1) (rowD r) (.ref a) := by
  unfold rowD Is
  exact ⟨by rw [List.length_map]; exact hl, a, _, rfl, h, paired_row r⟩
theorem of_is_row {H : Hp} {n : Nat} {r : Row} {v : V} (h : Is H (n + 1) (rowD r) v) : ∃ a, v = .ref a ∧ H a = some (.tup (rowV r)) := by
  unfold rowD Is at h
  obtain ⟨_, a, xs, e, h1, h2⟩ := h
  rw [of_paired_row h2] at h1
  exact ⟨a, e, h1⟩
theorem mem_lets {k : Int} (hk : k = 2 ∨ k = 3) {c : Nat} : c ∈ lets k ↔ c = 126 ∨ (48 ≤ c ∧ (c : Int) < 48 + k) := by
  rcases hk with rfl | rfl
  · show c ∈ [126, 48, 49] ↔ _
    simp only [List.mem_cons, List.not_mem_nil, or_false]
    omega
  · show c ∈ [126, 48, 49, 50] ↔ _
    simp only [List.mem_cons, List.not_mem_nil, or_false]
    omega
theorem dec_code {k : Int} {o : Option Int} (h : ∀ i, some i = o → 0 ≤ i ∧ i < k) (hk : k ≤ 3) : dec (code o) = o := by
  cases o with
  | none => rfl
  | some i =>
    obtain ⟨h0, h1⟩ := h i rfl
    unfold dec code
    rw [if_neg (by simp only []; omega)]
    congr 1
    simp only []
    omega
theorem code_dec {k : Int} (hk : k = 2 ∨ k = 3) {c : Nat} (h : c ∈ lets k) : code (dec c) = c := by
  rcases (mem_lets hk).mp h with rfl | ⟨h1, h2⟩
  · rfl
  · unfold dec
    rw [if_neg (by omega)]
    show 48 + ((c : Int) - 48).toNat = c
    omega
theorem code_lets {k : Int} (hk : k = 2 ∨ k = 3) {o : Option Int} (h : ∀ i, some i = o → 0 ≤ i ∧ i < k) : code o ∈ lets k := by
  rw [mem_lets hk]
  cases o with
  | none => exact .inl rfl
  | some i =>
    obtain ⟨h0, h1⟩ := h i rfl
    right
    unfold code
    simp only []
    omega
theorem rd_txt {k : Int} (hk : k = 2 ∨ k = 3) {r : Row} (h : RowOk k r) : rd (txt r) k = some r := by
  unfold rd txt
  by_cases e : r = []
  · subst e
    rfl
  · rw [if_neg e]
    have l : r.map code ≠ [] := fun z => e (List.map_eq_nil_iff.mp z)
    have e1 : (⟨(r.map code).toArray⟩ : Str) ≠ ⟨#[]⟩ := fun z => l (by
      have := congrArg (fun s : Str => s.cps.toList) z
      simpa using this)
    have in1 : ∀ c ∈ r.map code, c ∈ lets k := fun c hc => by
      obtain ⟨o, ho, rfl⟩ := List.mem_map.mp hc
      exact code_lets hk fun i hi => h i (by rw [hi]; exact ho)
    have e2 : (⟨(r.map code).toArray⟩ : Str) ≠ ⟨#[46]⟩ := fun z => by
      have q := congrArg (fun s : Str => s.cps.toList) z
      have q1 : r.map code = [46] := by simpa using q
      have q2 := (mem_lets hk).mp (in1 46 (by rw [q1]; exact List.mem_singleton.mpr rfl))
      omega
    rw [if_neg e1, if_neg e2, if_pos (show ∀ c ∈ (⟨(r.map code).toArray⟩ : Str).cps.toList, c ∈ lets k from by
      show ∀ c ∈ ((r.map code).toArray).toList, c ∈ lets k
      rw [List.toList_toArray]
      exact in1)]
    congr 1
    show (((r.map code).toArray).toList).map dec = r
    rw [List.toList_toArray, List.map_map]
    have : ∀ o ∈ r, (dec ∘ code) o = o := fun o ho => dec_code (k := k) (fun i hi => h i (by rw [hi]; exact ho)) (by omega)
    rw [List.map_congr_left this, List.map_id']
theorem rd_ok {k : Int} (hk : k = 2 ∨ k = 3) {z : Str} {r : Row} (h : rd z k = some r) : RowOk k r ∧ txt r = z ∧ r.length ≤ z.length := by
  unfold rd at h
  by_cases e : z = ⟨#[]⟩
  · rw [if_pos e] at h
    cases h
  rw [if_neg e] at h
  by_cases e2 : z = ⟨#[46]⟩
  · rw [if_pos e2] at h
    cases h
    exact ⟨fun i hi => by simp at hi, by rw [e2]; rfl, Nat.zero_le _⟩
  rw [if_neg e2] at h
  by_cases e3 : ∀ c ∈ z.cps.toList, c ∈ lets k
  · rw [if_pos e3] at h
    cases h
    refine ⟨fun i hi => ?_, ?_, ?_⟩
    · obtain ⟨c, hc, hd⟩ := List.mem_map.mp hi
      rcases (mem_lets hk).mp (e3 c hc) with rfl | ⟨h1, h2⟩
      · cases hd
      · unfold dec at hd
        rw [if_neg (by omega)] at hd
        have := Option.some.inj hd
        omega
    · unfold txt
      have ne : z.cps.toList.map dec ≠ [] := fun q => e (by
        have q1 := List.map_eq_nil_iff.mp q
        exact Str.ext' (Array.toList_inj.mp (by rw [q1])))
      rw [if_neg ne]
      refine Str.ext' (Array.toList_inj.mp ?_)
      show ((z.cps.toList.map dec).map code).toArray.toList = z.cps.toList
      rw [List.toList_toArray, List.map_map]
      have : ∀ c ∈ z.cps.toList, (code ∘ dec) c = c := fun c hc => code_dec hk (e3 c hc)
      rw [List.map_congr_left this, List.map_id']
    · rw [List.length_map]
      show z.cps.toList.length ≤ z.cps.size
      rw [Array.length_toList]
      exact Nat.le_refl _
  · rw [if_neg e3] at h
    cases h
/-! ### list(text) -/
theorem call_list_strR {X : Cx} (hc : X.calm = true := by rfl) : CallR X (.type "list") (fun xs H Q => ∃ z, xs = [.str z] ∧ z.length ≤ sizeLine ∧ ∀ l, H l = none → Q (.ref l) (upd H l (.lst (z.cps.toList.map fun c => V.str ⟨#[c]⟩)))) := by
  intro pins s σ H xs us Q I r h
  obtain ⟨z, rfl, hz, q⟩ := h
  obtain ⟨u, rfl, t, rfl⟩ := vals1 r
  refine PySem.call_list_str (I.ok.hd hc) z t (fun h' tk acc' c' kp e hacc => ?_) hz
  have el : acc'.toList.length = acc'.size := by simp
  refine ⟨.ref s.heap.objs.size, _, I.laid kp (Nat.le_refl _) (show ObjOk X.prog X.w _ _ _ (.lst (z.cps.toList.map fun c => V.str ⟨#[c]⟩)) from ⟨?_, acc'.toList, c', ?_, ?_⟩), rfl, q _ (I.hok.fresh (Nat.le_refl _))⟩
  · rw [List.length_map, Array.length_toList]; exact hz
  · refine vals_of_at (by rw [List.length_map, el, hacc.1, Array.length_toList]) fun j x w h1 h2 => ?_
    obtain ⟨c, u, hc, rfl⟩ := hacc.2 j w (by rw [← Array.getElem?_toList]; exact h2)
    rw [List.getElem?_map, Array.getElem?_toList, hc] at h1
    cases h1
    exact ⟨u, rfl⟩
  · rw [Array.toArray_toList]; exact e
section
variable {P : Program} {w : World} {K : PySem.W.Frag} {mg : Str → Option Value} {base : Heap}
def valsOf (k : Int) : List V := [V.non, .int 0, .int 1, .int 2].take (k + 1).toNat
def sp_values : Sp := fun vs H Q _ => ∃ k : Int, vs = [.int k] ∧ (k = 2 ∨ k = 3) ∧ ∀ p H', H p = none → Same H H' → H' p = some (.lst (valsOf k)) → Q (.ref p) H'
theorem cut_take {xs : List V} {k : Int} (h : 0 ≤ k) : cutV xs none (some k) = xs.take k.toNat := by
  unfold cutV
  rw [HT.sIx_none, List.drop_zero, Nat.sub_zero]
  obtain ⟨n, rfl⟩ : ∃ n : Nat, k = (n : Int) := ⟨k.toNat, by omega⟩
  rw [HT.sIx_nat, Int.toNat_natCast]
  exact (List.take_eq_take_min).symm
theorem ok_values (T : Txt K mg) : FnOk P w K mg base CX0 1 T.l_values.f T.l_values.d ["_law_base"] sp_values := by
  refine T.l_values.F.ok sc_l_values (fun vs H Q E h => ?_) (fun cdv A outer s H vs Q E hr h => ?_)
  · obtain ⟨k, rfl, _⟩ := h
    rfl
  obtain ⟨k, rfl, hk, q⟩ := h
  refine ⟨_, (pss_one (ps_ret (pe_slice sl_list (pe_lst (pa_cons pe_non (pa_cons pe_int (pa_cons pe_int (pa_cons pe_int pa_nil))))) po_none (po_some (pe_op op_add (pv 0) pe_int))))), ?_⟩
  walk_at "wp"
  intro p hp
  refine ⟨_, .inl (.inl upd_same), fun t ht => ?_⟩
  refine q _ _ ((same_upd hp).free ht) ((same_upd hp).trans (same_upd ht)) ?_
  rw [upd_same, cut_take (by omega)]
  rfl
def sp_row (K : PySem.W.Frag) : Sp := fun vs H Q _ => ∃ (B : BagId) (n k : Int), vs = [.ref B.b, .int n, .int k] ∧ Bag B H ∧ 0 ≤ n ∧ n ≤ 100 ∧ (k = 2 ∨ k = 3) ∧
  ∀ (t : Addr) (r : Row) H', H t = none → Ext B H H' → cut B.b H' t = some (.tup (rowV r)) → (r.length : Int) = n → RowOk k r → Q (.ref t) H'
theorem mem_vals {k : Int} (hk : k = 2 ∨ k = 3) {v : V} (h : v ∈ valsOf k) : ∃ o : Option Int, v = valV o ∧ ∀ i, some i = o → 0 ≤ i ∧ i < k := by
  rcases hk with rfl | rfl
  · have h : v ∈ [V.non, .int 0, .int 1] := h
    simp only [List.mem_cons, List.not_mem_nil, or_false] at h
    rcases h with rfl | rfl | rfl
    · exact ⟨none, rfl, fun i hi => by cases hi⟩
    · exact ⟨some 0, rfl, fun i hi => by cases hi; decide⟩
    · exact ⟨some 1, rfl, fun i hi => by cases hi; decide⟩
  · have h : v ∈ [V.non, .int 0, .int 1, .int 2] := h
    simp only [List.mem_cons, List.not_mem_nil, or_false] at h
    rcases h with rfl | rfl | rfl | rfl
    · exact ⟨none, rfl, fun i hi => by cases hi⟩
    · exact ⟨some 0, rfl, fun i hi => by cases hi; decide⟩
    · exact ⟨some 1, rfl, fun i hi => by cases hi; decide⟩
    · exact ⟨some 2, rfl, fun i hi => by cases hi; decide⟩
theorem vals_pos {k : Int} (hk : k = 2 ∨ k = 3) : 0 < (valsOf k).length ∧ (valsOf k).length < 1000000 := by
  rcases hk with rfl | rfl <;> exact ⟨by decide, by decide⟩
theorem row_of : ∀ {k : Int} {ys : List V}, (∀ (i : Nat) (y : V), ys[i]? = some y → ∃ o : Option Int, y = valV o ∧ ∀ i, some i = o → 0 ≤ i ∧ i < k) → ∃ r : Row, ys = rowV r ∧ RowOk k r
  | _, [], _ => ⟨[], rfl, fun i hi => by simp at hi⟩
  | k, y :: ys, h => by
    obtain ⟨o, rfl, ho⟩ := h 0 y rfl
    obtain ⟨r, rfl, hr⟩ := row_of (ys := ys) fun i y e => h (i + 1) y e
    refine ⟨o :: r, rfl, fun i hi => ?_⟩
    rcases List.mem_cons.mp hi with e | e
    · exact ho i e
    · exact hr i e
theorem ok_row (T : Txt K mg) : FnOk P w K mg base CX0 3 T.l_row.f T.l_row.d ["_law_bag_here", "_law_n", "_law_base"] (sp_row K) := by
  have G_l_of : FnOk P w K mg base CX0 2 T.l_of.f T.l_of.d ["_law_bag_here", "_law_things"] (sp_of K) := ok_of T
  have G_l_values : FnOk P w K mg base CX0 1 T.l_values.f T.l_values.d ["_law_base"] sp_values := ok_values T
  refine T.l_row.F.ok sc_l_row (fun vs H Q E h => ?_) (fun cdv A outer s H vs Q E hr h => ?_)
  · obtain ⟨B, n, k, rfl, _⟩ := h
    rfl
  obtain ⟨B, n, k, rfl, hB, hn0, hn1, hk, q⟩ := h
  refine ⟨_, (pss_one (ps_ret (pe_callTy call_tuple_of (by rfl) T.z_tuple (by decide +kernel) (pa_cons (pe_lc (own := [("_law_k", 3)]) (g := gName 3) rfl sc_l_row.nd (pi_range1 (by rfl) T.z_range (pa_cons (pv 1) pa_nil)) (blkOk_by (own := [("_law_k", 3)]) (N := ["_law_bag_here", "_law_n", "_law_base", "_law_k"]) (sc := defScope s_l_row) (by decide +kernel)) (fun _ _ _ _ _ => (pg_name (i := 3) sc_l_row.nd rfl (.inl rfl))) (fun _ _ _ _ _ => pts_nil) (fun _ _ _ _ _ => (pe_call G_l_of (hr.mono (by omega)) (by rfl) T.l_of.g T.l_of.kp T.l_of.b .nil pass0 (pa_cons (pv 0) (pa_cons (pe_call G_l_values (hr.mono (by omega)) (by rfl) T.l_values.g T.l_values.kp T.l_values.b .nil pass0 (pa_cons (pv 2) pa_nil)) pa_nil))))) pa_nil)))), ?_⟩
  walk_at "wp"
  refine ⟨by omega, by omega, ?_⟩
  refine lcB (B := B) (walk_range (n := n.toNat)) (fun i y => ∃ o : Option Int, y = valV o ∧ ∀ i, some i = o → 0 ≤ i ∧ i < k) hB (fun _ _ => trivial) (by omega) (fun i x H1 H2 R hi e1 hy c => ?_) (fun D H1 ys hD e1 hz hlen hall => ?_)
  · obtain ⟨rfl, rfl⟩ := hy
    walk_at "wp"
    refine ⟨k, rfl, hk, fun p H3 hp s3 hv => ?_⟩
    have e3 : Ext B H2 H3 := .of_same e1.bag s3
    have v3 : cut B.b H3 p = some (.lst (valsOf k)) := cut_of hv (e1.bag.fresh hp)
    refine ⟨B, p, valsOf k, rfl, e3.bag, .inl (.inl v3), (vals_pos hk).1, (vals_pos hk).2, fun v H4 hm e4 => c _ _ (e3.trans e4) (mem_vals hk hm)⟩
  · obtain ⟨r, rfl, hro⟩ := row_of hall
    have hz' := (cut_some hz).1
    refine ⟨_, rfl, rowV r, .inl ⟨.inl (.inl hz'), fun l hl => q l r _ (e1.free hl) (e1.trans (.new e1.bag hl)) (cut_new e1.bag hl) ?_ hro⟩⟩
    have : (rowV r).length = r.length := List.length_map _
    omega
def sp_text : Sp := fun vs H Q _ => ∃ (t : Addr) (r : Row), vs = [.ref t] ∧ H t = some (.tup (rowV r)) ∧ RowOk 3 r ∧ r.length ≤ 1000 ∧ ∀ H', Same H H' → Q (.str (txt r)) H'
theorem dp_vals {H : Hp} : ∀ (r : Row), DpAll K H (rowV r) (r.map valD)
  | [] => .nil
  | none :: r => .cons .non (dp_vals r)
  | some i :: r => .cons (.int i) (dp_vals r)
theorem dp_row {H : Hp} {a : Addr} {r : Row} (h : H a = some (.tup (rowV r))) : Dp K H (.ref a) (rowD r) := .tup (.inl (.inl h)) (dp_vals r)
theorem lay_vals : ∀ (r : Row), PyData.canLayAll0 (r.map valD) = true ∧ PyData.depthAll (r.map valD) = 0
  | [] => ⟨by unfold PyData.canLayAll0; rfl, by unfold PyData.depthAll; rfl⟩
  | none :: r => by
    obtain ⟨h1, h2⟩ := lay_vals r
    exact ⟨by rw [List.map_cons]; unfold PyData.canLayAll0; rw [h1]; rfl, by rw [List.map_cons]; unfold PyData.depthAll; rw [h2]; rfl⟩
  | some i :: r => by
    obtain ⟨h1, h2⟩ := lay_vals r
    exact ⟨by rw [List.map_cons]; unfold PyData.canLayAll0; rw [h1]; rfl, by rw [List.map_cons]; unfold PyData.depthAll; rw [h2]; rfl⟩
theorem shaped_row (r : Row) : SeqAt.shaped (rowD r) = true := by
  obtain ⟨h1, h2⟩ := lay_vals r
  unfold SeqAt.shaped rowD PyData.canLay0 PyData.depth
  rw [h1, h2]
  rfl
theorem eqv_row_nil {r : Row} : PyData.eqv (rowD r) (rowD []) = decide (r = []) := by
  cases r with
  | nil => rfl
  | cons o r => rfl
theorem joinL_nil : ∀ (ps : List (List Nat)), TL.joinL [] ps = ps.flatten
  | [] => rfl
  | [p] => by show p = [p].flatten; simp
  | p :: q :: r => by
    show p ++ ([] ++ TL.joinL [] (q :: r)) = (p :: q :: r).flatten
    rw [joinL_nil (q :: r), List.nil_append]
    rfl
theorem join_codes (r : Row) : Txt.join ⟨#[]⟩ (r.map fun o => (⟨#[code o]⟩ : Str)) = ⟨(r.map code).toArray⟩ := by
  rw [TL.join_eq]
  refine TL.ext_tl ?_
  rw [TL.tl_join]
  show TL.joinL [] _ = _
  rw [joinL_nil, List.map_map]
  show (r.map fun o => [code o]).flatten = (r.map code).toArray.toList
  rw [List.toList_toArray]
  induction r with
  | nil => rfl
  | cons o r ih => rw [List.map_cons, List.flatten_cons, List.map_cons, ih]; rfl
theorem sum_ones : ∀ (r : Row), ((r.map fun o => (⟨#[code o]⟩ : Str)).map (fun x => x.length)).sum = r.length
  | [] => rfl
  | o :: r => by
    rw [List.map_cons, List.map_cons, List.sum_cons, sum_ones r]
    show 1 + r.length = r.length + 1
    omega
theorem at_row {r : Row} {i : Nat} {x : V} (h : (rowV r)[i]? = some x) : ∃ o, r[i]? = some o ∧ x = valV o := by
  unfold rowV at h
  rw [List.getElem?_map] at h
  cases e : r[i]? with
  | none => rw [e] at h; cases h
  | some o => rw [e] at h; cases h; exact ⟨o, rfl, rfl⟩
theorem map_of_at {α : Type} {f : α → V} {r : List α} {ys : List V} (hl : ys.length = r.length) (h : ∀ (i : Nat) (y : V), ys[i]? = some y → ∃ o, r[i]? = some o ∧ y = f o) : ys = r.map f := by
  refine List.ext_getElem? fun i => ?_
  rw [List.getElem?_map]
  by_cases hi : i < ys.length
  · obtain ⟨o, e1, e2⟩ := h i ys[i] (List.getElem?_eq_getElem hi)
    rw [e1, List.getElem?_eq_getElem hi, e2]
    rfl
  · rw [List.getElem?_eq_none (by omega), List.getElem?_eq_none (by omega)]
    rfl
theorem str_small {i : Int} (h0 : 0 ≤ i) (h1 : i < 3) : i.natAbs.log2 < 1920 ∧ (Str.ofString (toString i) : Str) = ⟨#[48 + i.toNat]⟩ := by
  have : i = 0 ∨ i = 1 ∨ i = 2 := by omega
  rcases this with rfl | rfl | rfl <;> exact ⟨by decide, by decide⟩
theorem mem_at {r : Row} {i : Nat} {o : Option Int} (h : r[i]? = some o) : o ∈ r := List.mem_of_getElem? h
theorem iekb {ta tb : TE} {σ : L2.St} {H : Hp} {Q : VK} {b : Bool} (h1 : b = true → ta σ H Q) (h2 : b = false → tb σ H Q) : IeK ta tb σ Q b H := by
  cases b with
  | true => exact h1 rfl
  | false => exact h2 rfl
theorem text_comp {Q : VK} {r : Row} {t : Addr} {H1 : Hp} {e : Str} (he : e = ⟨#[]⟩) (ht : H1 t = some (.tup (rowV r))) (hro : RowOk 3 r) (hlen : r.length ≤ 1000) (ne : r ≠ []) (q : ∀ H', Same H1 H' → Q (.str (txt r)) H') :
    LcJ (gName 1) tYes (tIf (tTest (tOp (fun x y H Q => y = V.non ∧ Q (V.bl (decide (x = V.non))) H) (tVar 1) (tC V.non))) (tC (V.str (Str.ofString "~")))
      (tCB (fun xs H Q => ∃ i, xs = [V.int i] ∧ i.natAbs.log2 < 1920 ∧ Q (V.str (Str.ofString (toString i))) H) (tCons (tVar 1) tNil))) [1] [some (V.ref t), none]
      (fun y H2 => ∃ x, y = V.ref x ∧ ∃ x_1, (SqL K H2 x (List.map V.str x_1) ∨ SqT K H2 x (List.map V.str x_1)) ∧ (List.map (fun x => x.length) x_1).sum + x_1.length * e.length ≤ 16777216 ∧ Q (V.str (Txt.join e x_1)) H2) (Itt K t) H1 := by
  refine lcS (walk_tup (xs := rowV r)) (fun i y => ∃ o, r[i]? = some o ∧ y = .str ⟨#[code o]⟩) (fun H s => .inl (.inl (s _ _ ht))) (by unfold rowV; rw [List.length_map]; omega) (fun i x H H' R hi s1 hy c => ?_) (fun D H zs hD s1 hz hl hall => ?_)
  · obtain ⟨rfl, hx⟩ := hy
    obtain ⟨o, e1, rfl⟩ := at_row hx
    cases o with
    | none =>
      unfold valV
      walk_at "wp"
      exact c _ _ (Same.refl _) ⟨none, e1, rfl⟩
    | some i =>
      unfold valV
      walk_at "wp"
      obtain ⟨h0, h1⟩ := hro i (mem_at e1)
      obtain ⟨h2, h3⟩ := str_small h0 h1
      exact ⟨h2, c _ _ (Same.refl _) ⟨some i, e1, by rw [h3]; rfl⟩⟩
  · subst he
    have e1 : zs = r.map fun o => V.str ⟨#[code o]⟩ := map_of_at (by rw [hl]; exact List.length_map _) hall
    have e2 : zs = (r.map fun o => (⟨#[code o]⟩ : Str)).map V.str := by rw [e1, List.map_map]; rfl
    refine ⟨D, rfl, r.map fun o => (⟨#[code o]⟩ : Str), .inl (.inl (.inl (by rw [← e2]; exact hz))), ?_, ?_⟩
    · rw [sum_ones]
      show r.length + _ * 0 ≤ _
      omega
    · rw [join_codes]
      have : txt r = ⟨(r.map code).toArray⟩ := if_neg ne
      rw [← this]
      exact q _ s1
theorem ok_text (T : Txt K mg) : FnOk P w K mg base CX0 1 T.l_text.f T.l_text.d ["_law_row_here"] sp_text := by
  refine T.l_text.F.ok sc_l_text (fun vs H Q E h => ?_) (fun cdv A outer s H vs Q E hr h => ?_)
  · obtain ⟨t, r, rfl, _⟩ := h
    rfl
  obtain ⟨t, r, rfl, ht, hro, hlen, q⟩ := h
  refine ⟨_, (pss_one (ps_ret (pe_ifExp (pt_cmpR (op_eqD hr.units) (pv 0) (pe_tup pa_nil) (nomark _)) pe_str (pe_join pe_str (pe_lc (own := [("_law_v", 1)]) (g := gName 1) rfl sc_l_text.nd (pi_tup (pv 0)) (blkOk_by (own := [("_law_v", 1)]) (N := ["_law_row_here", "_law_v"]) (sc := defScope s_l_text) (by decide +kernel)) (fun _ _ _ _ _ => (pg_name (i := 1) sc_l_text.nd rfl (.inl rfl))) (fun _ _ _ _ _ => pts_nil) (fun _ _ _ _ _ => (pe_ifExp (pt_cmpR op_isN (pv 1) pe_non (nomark _)) pe_str (pe_callTy call_str_int (by rfl) T.z_str (by decide +kernel) (pa_cons (pv 1) pa_nil))))))))), ?_⟩
  walk_at "wp"
  intro p hp
  have s1 : Same H (upd H p (.tup [])) := same_upd hp
  refine ⟨rowD r, rowD [], dp_row (s1 _ _ ht), dp_row upd_same, shaped_row r, shaped_row [], ?_⟩
  rw [eqv_row_nil]
  walk_at "wp"
  refine iek (fun c => ?_) (fun c => ?_)
  · walk_at "wp"
    subst c
    exact q _ s1
  · walk_at "wp"
    refine ⟨⟨_, .inl (.inl (s1 _ _ ht))⟩, ?_⟩
    exact text_comp rfl (s1 _ _ ht) hro hlen c fun H' s2 => q _ (s1.trans s2)
theorem ok_row_text (T : Txt K mg) : FnOk P w K mg base CX0 1 T.row_text.f T.row_text.d ["row"] sp_text := by
  refine T.row_text.F.ok sc_row_text (fun vs H Q E h => ?_) (fun cdv A outer s H vs Q E hr h => ?_)
  · obtain ⟨t, r, rfl, _⟩ := h
    rfl
  obtain ⟨t, r, rfl, ht, hro, hlen, q⟩ := h
  refine ⟨_, (pss_cons (ps_if (pt_cmpR op_eq (pe_callB call_len_seq (by rfl) T.z_len PySem.boot_len (pa_cons (pv 0) pa_nil)) pe_int (nomark _))
      (pss_one (ps_ret (pe_glob rfl T.c_NO_INPUTS T.r_NO_INPUTS)))
      pss_nil)
      (pss_one (ps_ret (pe_join pe_str (pe_lc (own := [("value", 1)]) (g := gName 1) rfl sc_row_text.nd (pi_tup (pv 0)) (blkOk_by (own := [("value", 1)]) (N := ["row", "value"]) (sc := defScope s_row_text) (by decide +kernel)) (fun _ _ _ _ _ => (pg_name (i := 1) sc_row_text.nd rfl (.inl rfl))) (fun _ _ _ _ _ => pts_nil) (fun _ _ _ _ _ => (pe_ifExp (pt_cmpR op_isN (pv 1) pe_non (nomark _)) (pe_glob rfl T.c_NEVER T.r_NEVER) (pe_callTy call_str_int (by rfl) T.z_str (by decide +kernel) (pa_cons (pv 1) pa_nil))))))))), ?_⟩
  walk_at "wp"
  refine ⟨rowV r, .inr (.inl (.inl ht)), ?_⟩
  refine ifk (fun c => ?_) (fun c => ?_)
  · have : r = [] := by
      cases r with
      | nil => rfl
      | cons o r => exfalso; unfold rowV at c; rw [List.length_map, List.length_cons] at c; omega
    subst this
    walk_at "wp"
    exact q _ (Same.refl _)
  · walk_at "wp"
    refine ⟨⟨_, .inl (.inl ht)⟩, ?_⟩
    exact text_comp rfl ht hro hlen (fun e => c (by rw [e]; rfl)) q
end
end Kx

set_option Elab.async false
set_option linter.all false
set_option maxRecDepth 100000
set_option maxHeartbeats 4000000
namespace Kx
open PySem PySem.Spec PyProof.Rows L2
local macro_rules | `(tactic| walk_at "wp") => `(tactic| simp only [tSeq, tAsg, tC, tVar, tOp, tUn, rI, rI0, rU, tCB, tCons, tNil, tRet, tRetN, tDrop, tLst, tTup, tIf_eq, tIfS_eq, ifk_t, ifk_f, iek_t, iek_f, tTest, tB, tAnd, tOr, tNot, tAndV, tOrV, tNotV, tNext, tSl, rSlL, tPart, tNoPart, gName, gTup, gCons, gNil, gSub, rSetL, tCall, iList, iTup, iRng1, iRng2, rIxL, rIxT, rEq, rNe, scal_ii, scal_bb, scal_ss, scal_nx, scal_xn, RZ.iZipA, rIsiF, rIsiFT, vty_non, vty_bl, vty_int, vty_str, isa_list_list, isa_list_tuple, isa_list_bool, isa_list_int, isa_list_str, isa_tuple_list, isa_tuple_tuple, isa_tuple_bool, isa_tuple_int, isa_tuple_str, isa_dict_list, isa_dict_tuple, isa_dict_bool, isa_dict_int, isa_dict_str, isa_bool_list, isa_bool_tuple, isa_bool_bool, isa_bool_int, isa_bool_str, isa_int_list, isa_int_tuple, isa_int_bool, isa_int_int, isa_int_str, isa_str_list, isa_str_tuple, isa_str_bool, isa_str_int, isa_str_str, isa_non_list, isa_non_tuple, isa_non_bool, isa_non_int, isa_non_str, kc_bool, kc_int, kc_str, kc_list, kc_tuple, upd_same, HO.tup.injEq, HO.lst.injEq, V.ty.injEq, Bool.or_true, Bool.true_or, Bool.or_false, Bool.false_or, sz_0, sz_1, sz_2, sz_3, sz_4, sz_5, sz_6, sz_7, sz_8, sz_9, sz_10, sz_11, sz_12, sz_13, decide_true, decide_false, C8.tCut, tPar, tCallN,  tDisp, tPairs, rSlS, rLenS, rLenV, rListOf, rTupOf, tM0, tM1, iStr, wipe, tYes, tFor_eq, tLc_eq, L2.start, cxOf, Cx.nox, Cx.wish, List.map_cons, List.map_nil, List.length_cons, List.length_nil, List.replicate, List.cons_append, List.nil_append, List.getElem?_cons_zero, List.getElem?_cons_succ, List.set_cons_zero, List.set_cons_succ, Option.some.injEq, and_assoc, exists_and_left, exists_and_right, exists_eq_left', exists_eq_left, exists_eq, exists_eq', true_and, and_true, Nat.reduceSub, Nat.reduceAdd, V.int.injEq, V.ref.injEq, V.bl.injEq, V.str.injEq, List.cons.injEq, decide_eq_true_eq, reduceCtorEq, false_or, or_false, and_false, false_and, exists_false, exists_const, if_true, if_false, Bool.true_eq_false, Bool.false_eq_true, ite_true, ite_false, Bool.not_true, Bool.not_false, decide_eq_false_iff_not, ne_eq])

section
variable {P : Program} {w : World} {K : PySem.W.Frag} {mg : Str → Option Value} {base : Heap}
def rdv (x : V) (k : Int) : Option Row := match x with
  | .str z => rd z k
  | _ => none
def isStr : V → Bool
  | .str _ => true
  | _ => false
theorem isa_str {x : V} {H : Hp} {n : String} (h : vty x H = some n) : isaB n "str" = isStr x := by
  unfold vty at h
  split at h
  · cases h; exact isa_non_str
  · cases h; exact isa_bool_str
  · cases h; exact isa_int_str
  · cases h; exact isa_str_str
  · split at h
    · cases h; exact isa_list_str
    · cases h; exact isa_tuple_str
    · cases h; exact isa_dict_str
    · cases h
  · cases h
def sp_read : Sp := fun vs H Q _ => ∃ (x : V) (k : Int), vs = [x, .int k] ∧ (k = 2 ∨ k = 3) ∧ (∃ n, vty x H = some n) ∧ (∀ z, x = .str z → z.length ≤ 1000) ∧ ∀ v H', Same H H' → Is H' 1 (optD (rdv x k)) v → Q v H'
theorem kb_read (T : Txt K mg) : ∃ mv : List Value, KBn K T.read_row.d ["text", "signs"] 1 ["signs"] (fun us ws => us ++ ws) (fun vs zs => vs ++ zs) :=
  T.read_row.F.kbinds0 1 ["signs"] [] (fun us _ ws => us ++ ws) (by simp) (by simp) (fun r1 _ r2 => r1.append r2) (fun D doc pm an cdv ct us mv ws h1 h2 h3 => match us, ws, mv, h1, h2, h3 with | [_], [_], [], _, _, _ => rfl)
theorem b1_read (T : Txt K mg) : ∃ ds, Vals [.int 2] ds ∧ Binds K T.read_row.d ["text", "signs"] ds :=
  T.read_row.F.binds0 1 (by simp) rfl (fun D doc pm an cdv ct us ks h1 h2 => match us, ks, h1, h2 with | [_], [_], _, _ => ⟨_, _, _, _, _, _, rfl, rfl, rfl⟩)
theorem all_map {α : Type} {p : α → Prop} [DecidablePred p] : ∀ (l : List α), (l.map fun c => decide (p c)).all id = decide (∀ c ∈ l, p c)
  | [] => by simp
  | a :: l => by
    rw [List.map_cons, List.all_cons, all_map l]
    by_cases h : p a <;> simp [h]
theorem dig {k : Int} (hk : k = 2 ∨ k = 3) {c : Nat} (h : c ∈ lets k) (h1 : c ≠ 126) : PySem.intText? ⟨#[c]⟩ = some ((c : Int) - 48) ∧ dec c = some ((c : Int) - 48) := by
  refine ⟨?_, if_neg h1⟩
  have : c = 48 ∨ c = 49 ∨ c = 50 := by
    rcases (mem_lets hk).mp h with e | ⟨e1, e2⟩
    · exact absurd e h1
    · omega
  rcases this with rfl | rfl | rfl <;> decide +kernel
theorem sign_eq {a b : Nat} : ((⟨#[a]⟩ : Str) = ⟨#[b]⟩) ↔ a = b := ⟨fun h => by
  have := congrArg (fun s : Str => s.cps.toList) h
  simpa using this, fun h => by rw [h]⟩
theorem in_lets {k : Int} (hk : k = 2 ∨ k = 3) {c : Nat} : inV (V.str ⟨#[c]⟩) (cutV ((Str.ofString "~012" : Str).cps.toList.map fun c => V.str ⟨#[c]⟩) none (some (k + 1))) = decide (c ∈ lets k) := by
  rw [cut_take (by omega)]
  have e : ((Str.ofString "~012" : Str).cps.toList.map fun c => V.str ⟨#[c]⟩).take (k + 1).toNat = (lets k).map fun c => V.str ⟨#[c]⟩ := by
    rw [← List.map_take]
    rfl
  rw [e]
  generalize lets k = l
  induction l with
  | nil => rfl
  | cons a l ih =>
    unfold inV at ih ⊢
    rw [List.map_cons, List.any_cons, ih]
    show ((⟨#[a]⟩ : Str) == ⟨#[c]⟩ || decide (c ∈ l)) = decide (c ∈ a :: l)
    rw [Bool.eq_iff_iff, Bool.or_eq_true, decide_eq_true_iff, decide_eq_true_iff, beq_iff_eq, sign_eq, List.mem_cons]
    exact ⟨fun h => h.imp Eq.symm id, fun h => h.imp Eq.symm id⟩
theorem cut_lets {k : Int} (hk : k = 2 ∨ k = 3) : (cutS (Str.ofString "~012") none (some (k + 1))).cps.toList = lets k := by
  rcases hk with rfl | rfl <;> decide
theorem flat_cut {k : Int} : (cutV ((Str.ofString "~012" : Str).cps.toList.map fun c => V.str ⟨#[c]⟩) none (some (k + 1))).all flatV = true := by
  rw [List.all_eq_true]
  intro v hv
  unfold cutV at hv
  obtain ⟨c, _, rfl⟩ := List.mem_map.mp (List.mem_of_mem_drop (List.mem_of_mem_take hv))
  rfl
theorem str_list {z : Str} {i c : Nat} (h : z.cps[i]? = some c) : z.cps.toList[i]? = some c := by rw [Array.getElem?_toList]; exact h
theorem ok_read (T : Txt K mg) : FnOk P w K mg base CX0 1 T.l_read.f T.l_read.d ["_law_text_here", "_law_base"] sp_read := by
  refine T.l_read.F.ok sc_l_read (fun vs H Q E h => ?_) (fun cdv A outer s H vs Q E hr h => ?_)
  · obtain ⟨x, k, rfl, _⟩ := h
    rfl
  obtain ⟨x, k, rfl, hk, ⟨n, hn⟩, hz, q⟩ := h
  refine ⟨_, (pss_cons (ps_if (PW.pt (pw_or (pt_not (pt_val (pe_callB call_isiF (by rfl) T.z_isinstance (by decide +kernel) (pa_cons (pv 0) (pa_cons (pe_tyb "str" (by rfl) T.z_str (by decide +kernel)) pa_nil))))) (pw_or1 (pt_cmpR op_eq (pv 0) pe_str (nomark _)))))
      (pss_one (ps_ret pe_non))
      pss_nil)
      (pss_cons (ps_if (pt_cmpR op_eq (pv 0) pe_str (nomark _))
      (pss_one (ps_ret (pe_tup pa_nil)))
      pss_nil)
      (pss_cons (ps_if (pt_not (pt_val (pe_callB (cr_all rfl) (by rfl) T.z_all (by decide +kernel) (pa_cons (pe_lc (own := [("_law_c", 2)]) (g := gName 2) rfl sc_l_read.nd (pi_str (pv 0)) (blkOk_by (own := [("_law_c", 2)]) (N := ["_law_text_here", "_law_base", "_law_c"]) (sc := defScope s_l_read) (by decide +kernel)) (fun _ _ _ _ _ => (pg_name (i := 2) sc_l_read.nd rfl (.inl rfl))) (fun _ _ _ _ _ => pts_nil) (fun _ _ _ _ _ => (pe_cmpR (show OpR _ _ (rIn K false) from op_in_seq) (pv 2) (pe_slice (show SlR _ (rSlL K) from sl_list) (pe_callTy call_list_strR (by rfl) T.z_list (by decide +kernel) (pa_cons pe_str pa_nil)) po_none (po_some (pe_op op_add (pv 1) pe_int))) (by rfl)))) pa_nil))))
      (pss_one (ps_ret pe_non))
      pss_nil)
      (pss_one (ps_ret (pe_callTy call_tuple_of (by rfl) T.z_tuple (by decide +kernel) (pa_cons (pe_lc (own := [("_law_c", 2)]) (g := gName 2) rfl sc_l_read.nd (pi_str (pv 0)) (blkOk_by (own := [("_law_c", 2)]) (N := ["_law_text_here", "_law_base", "_law_c"]) (sc := defScope s_l_read) (by decide +kernel)) (fun _ _ _ _ _ => (pg_name (i := 2) sc_l_read.nd rfl (.inl rfl))) (fun _ _ _ _ _ => pts_nil) (fun _ _ _ _ _ => (pe_ifExp (pt_cmpR op_eq (pv 2) pe_str (nomark _)) pe_non (pe_callTy call_int_str (by rfl) T.z_int (by decide +kernel) (pa_cons (pv 2) pa_nil))))) pa_nil))))))), ?_⟩
  walk_at "wp"
  refine ⟨n, hn, ?_⟩
  rw [isa_str hn]
  cases hx : isStr x with
  | false =>
    walk_at "wp"
    refine q _ _ (Same.refl _) ?_
    have e : rdv x k = none := by
      unfold rdv
      split
      · cases hx
      · rfl
    rw [e]
    unfold optD Is
    rfl
  | true =>
    obtain ⟨z, rfl⟩ : ∃ z, x = .str z := by
      unfold isStr at hx
      split at hx
      · exact ⟨_, rfl⟩
      · cases hx
    have hz1 := hz z rfl
    have e0 : rdv (.str z) k = rd z k := rfl
    rw [e0] at q
    walk_at "wp"
    refine ifk (fun c1 => ?_) (fun c1 => ?_)
    · walk_at "wp"
      refine q _ _ (Same.refl _) ?_
      unfold rd
      rw [if_pos (show z = ⟨#[]⟩ from c1)]
      unfold optD Is
      rfl
    walk_at "wp"
    refine ifk (fun c2 => ?_) (fun c2 => ?_)
    · walk_at "wp"
      intro p hp
      refine q _ _ (same_upd hp) ?_
      unfold rd
      rw [if_neg (show ¬ z = ⟨#[]⟩ from c1), if_pos (show z = ⟨#[46]⟩ from c2)]
      exact is_row upd_same (by decide)
    walk_at "wp"
    have hzs : z.cps.size = z.cps.toList.length := by rw [Array.length_toList]
    have hzl : z.cps.size ≤ 1000 := hz1
    refine lcS (walk_str (z := z)) (fun i y => ∃ c, z.cps.toList[i]? = some c ∧ y = .bl (decide (c ∈ lets k))) (fun _ _ => trivial) (by omega) (fun i x H1 H2 R hi s1 hy cc => ?_) (fun D H1 bs hD s1 hb hl hall => ?_)
    · obtain ⟨rfl, c, hc, rfl⟩ := hy
      walk_at "wp"
      refine ⟨by decide, fun l hl => ⟨_, .inl (.inl upd_same), fun p hp => ?_⟩⟩
      refine ⟨p, _, rfl, .inl (.inl (.inl upd_same)), rfl, flat_cut, ?_⟩
      rw [if_neg Bool.false_ne_true, in_lets hk]
      exact cc _ _ ((same_upd hl).trans (same_upd hp)) ⟨c, str_list hc, rfl⟩
    · have e1 : bs = z.cps.toList.map fun c => V.bl (decide (c ∈ lets k)) := map_of_at (by rw [hl, hzs]) hall
      have e2 : bs = (z.cps.toList.map fun c => decide (c ∈ lets k)).map V.bl := by rw [e1, List.map_map]; rfl
      refine ⟨D, _, rfl, .inl (.inl (by rw [← e2]; exact hb)), ?_⟩
      rw [all_map]
      walk_at "wp"
      refine ifkb (fun c3 => ?_) (fun c3 => ?_)
      · have c4 : ¬ ∀ c ∈ z.cps.toList, c ∈ lets k := by
          intro h
          rw [decide_eq_true h] at c3
          cases c3
        walk_at "wp"
        refine q _ _ s1 ?_
        unfold rd
        rw [if_neg (show ¬ z = ⟨#[]⟩ from c1), if_neg (show ¬ z = ⟨#[46]⟩ from c2), if_neg c4]
        unfold optD Is
        rfl
      · have c4 : ∀ c ∈ z.cps.toList, c ∈ lets k := by
          by_cases h : ∀ c ∈ z.cps.toList, c ∈ lets k
          · exact h
          · rw [decide_eq_false h] at c3
            cases c3
        walk_at "wp"
        refine lcS (walk_str (z := z)) (fun i y => ∃ c, z.cps.toList[i]? = some c ∧ y = valV (dec c)) (fun _ _ => trivial) (by omega) (fun i x H3 H4 R hi s3 hy cc => ?_) (fun D2 H3 ys hD2 s3 hy hl2 hall2 => ?_)
        · obtain ⟨rfl, c, hc, rfl⟩ := hy
          have hc1 := str_list hc
          have hcl := c4 c (List.mem_of_getElem? hc1)
          walk_at "wp"
          refine iek (fun c5 => ?_) (fun c5 => ?_)
          · have c6 : c = 126 := sign_eq.mp c5
            walk_at "wp"
            exact cc _ _ (Same.refl _) ⟨c, hc1, by rw [c6]; rfl⟩
          · have c6 : c ≠ 126 := fun e => c5 (by rw [e]; rfl)
            obtain ⟨d1, d2⟩ := dig hk hcl c6
            walk_at "wp"
            exact ⟨_, d1, by show 1 ≤ 640; decide, cc _ _ (Same.refl _) ⟨c, hc1, by rw [d2]; rfl⟩⟩
        · have e3 : ys = z.cps.toList.map fun c => valV (dec c) := map_of_at (by rw [hl2, hzs]) hall2
          have e4 : ys = rowV (z.cps.toList.map dec) := by rw [e3]; unfold rowV; rw [List.map_map]; rfl
          walk_at "wp"
          refine ⟨ys, .inl ⟨.inl (.inl hy), fun p hp => q _ _ (s1.trans (s3.trans (same_upd hp))) ?_⟩⟩
          unfold rd
          rw [if_neg (show ¬ z = ⟨#[]⟩ from c1), if_neg (show ¬ z = ⟨#[46]⟩ from c2), if_pos c4]
          exact is_row (by rw [← e4]; exact upd_same) (by rw [List.length_map, ← hzs]; exact hzl)
theorem ok_read_row (T : Txt K mg) : FnOk P w K mg base CX0 1 T.read_row.f T.read_row.d ["text", "signs"] sp_read := by
  refine T.read_row.F.ok sc_read_row (fun vs H Q E h => ?_) (fun cdv A outer s H vs Q E hr h => ?_)
  · obtain ⟨x, k, rfl, _⟩ := h
    rfl
  obtain ⟨x, k, rfl, hk, ⟨n, hn⟩, hz, q⟩ := h
  refine ⟨_, (pss_cons (ps_if (PW.pt (pw_or (pt_not (pt_val (pe_callB call_isiF (by rfl) T.z_isinstance (by decide +kernel) (pa_cons (pv 0) (pa_cons (pe_tyb "str" (by rfl) T.z_str (by decide +kernel)) pa_nil))))) (pw_or1 (pt_cmpR op_eq (pv 0) pe_str (nomark _)))))
      (pss_one (ps_ret pe_non))
      pss_nil)
      (pss_cons (ps_if (pt_cmpR op_eq (pv 0) (pe_glob rfl T.c_NO_INPUTS T.r_NO_INPUTS) (nomark _))
      (pss_one (ps_ret (pe_tup pa_nil)))
      pss_nil)
      (pss_cons (ps_set (i := 2) sc_read_row.nd rfl (.inr rfl) (pe_slice sl_str (pe_glob rfl T.c_ROW_LETTERS T.r_ROW_LETTERS) po_none (po_some (pe_op op_add (pv 1) pe_int))))
      (pss_cons (ps_if (pt_not (pt_val (pe_callB (cr_all rfl) (by rfl) T.z_all (by decide +kernel) (pa_cons (pe_lc (own := [("letter", 3)]) (g := gName 3) rfl sc_read_row.nd (pi_str (pv 0)) (blkOk_by (own := [("letter", 3)]) (N := ["text", "signs", "letters", "letter"]) (sc := defScope s_read_row) (by decide +kernel)) (fun _ _ _ _ _ => (pg_name (i := 3) sc_read_row.nd rfl (.inl rfl))) (fun _ _ _ _ _ => pts_nil) (fun _ _ _ _ _ => (pe_cmpR op_in_sign (pv 3) (pv 2) rfl))) pa_nil))))
      (pss_one (ps_ret pe_non))
      pss_nil)
      (pss_one (ps_ret (pe_callTy call_tuple_of (by rfl) T.z_tuple (by decide +kernel) (pa_cons (pe_lc (own := [("letter", 3)]) (g := gName 3) rfl sc_read_row.nd (pi_str (pv 0)) (blkOk_by (own := [("letter", 3)]) (N := ["text", "signs", "letters", "letter"]) (sc := defScope s_read_row) (by decide +kernel)) (fun _ _ _ _ _ => (pg_name (i := 3) sc_read_row.nd rfl (.inl rfl))) (fun _ _ _ _ _ => pts_nil) (fun _ _ _ _ _ => (pe_ifExp (pt_cmpR op_eq (pv 3) (pe_glob rfl T.c_NEVER T.r_NEVER) (nomark _)) pe_non (pe_callTy call_int_str (by rfl) T.z_int (by decide +kernel) (pa_cons (pv 3) pa_nil))))) pa_nil)))))))), ?_⟩
  walk_at "wp"
  refine ⟨n, hn, ?_⟩
  rw [isa_str hn]
  cases hx : isStr x with
  | false =>
    walk_at "wp"
    refine q _ _ (Same.refl _) ?_
    have e : rdv x k = none := by
      unfold rdv
      split
      · cases hx
      · rfl
    rw [e]
    unfold optD Is
    rfl
  | true =>
    obtain ⟨z, rfl⟩ : ∃ z, x = .str z := by
      unfold isStr at hx
      split at hx
      · exact ⟨_, rfl⟩
      · cases hx
    have hz1 := hz z rfl
    have e0 : rdv (.str z) k = rd z k := rfl
    rw [e0] at q
    walk_at "wp"
    refine ifk (fun c1 => ?_) (fun c1 => ?_)
    · walk_at "wp"
      refine q _ _ (Same.refl _) ?_
      unfold rd
      rw [if_pos (show z = ⟨#[]⟩ from c1)]
      unfold optD Is
      rfl
    walk_at "wp"
    refine ifk (fun c2 => ?_) (fun c2 => ?_)
    · walk_at "wp"
      intro p hp
      refine q _ _ (same_upd hp) ?_
      unfold rd
      rw [if_neg (show ¬ z = ⟨#[]⟩ from c1), if_pos (show z = ⟨#[46]⟩ from c2)]
      exact is_row upd_same (by decide)
    walk_at "wp"
    refine ⟨by decide, ?_⟩
    have hzs : z.cps.size = z.cps.toList.length := by rw [Array.length_toList]
    have hzl : z.cps.size ≤ 1000 := hz1
    refine lcS (walk_str (z := z)) (fun i y => ∃ c, z.cps.toList[i]? = some c ∧ y = .bl (decide (c ∈ lets k))) (fun _ _ => trivial) (by omega) (fun i x H1 H2 R hi s1 hy cc => ?_) (fun D H1 bs hD s1 hb hl hall => ?_)
    · obtain ⟨rfl, c, hc, rfl⟩ := hy
      walk_at "wp"
      rw [cut_lets hk]
      exact ⟨c, rfl, cc _ _ (Same.refl _) ⟨c, str_list hc, rfl⟩⟩
    · have e1 : bs = z.cps.toList.map fun c => V.bl (decide (c ∈ lets k)) := map_of_at (by rw [hl, hzs]) hall
      have e2 : bs = (z.cps.toList.map fun c => decide (c ∈ lets k)).map V.bl := by rw [e1, List.map_map]; rfl
      refine ⟨D, _, rfl, .inl (.inl (by rw [← e2]; exact hb)), ?_⟩
      rw [all_map]
      walk_at "wp"
      refine ifkb (fun c3 => ?_) (fun c3 => ?_)
      · have c4 : ¬ ∀ c ∈ z.cps.toList, c ∈ lets k := by
          intro h
          rw [decide_eq_true h] at c3
          cases c3
        walk_at "wp"
        refine q _ _ s1 ?_
        unfold rd
        rw [if_neg (show ¬ z = ⟨#[]⟩ from c1), if_neg (show ¬ z = ⟨#[46]⟩ from c2), if_neg c4]
        unfold optD Is
        rfl
      · have c4 : ∀ c ∈ z.cps.toList, c ∈ lets k := by
          by_cases h : ∀ c ∈ z.cps.toList, c ∈ lets k
          · exact h
          · rw [decide_eq_false h] at c3
            cases c3
        walk_at "wp"
        refine lcS (walk_str (z := z)) (fun i y => ∃ c, z.cps.toList[i]? = some c ∧ y = valV (dec c)) (fun _ _ => trivial) (by omega) (fun i x H3 H4 R hi s3 hy cc => ?_) (fun D2 H3 ys hD2 s3 hy hl2 hall2 => ?_)
        · obtain ⟨rfl, c, hc, rfl⟩ := hy
          have hc1 := str_list hc
          have hcl := c4 c (List.mem_of_getElem? hc1)
          walk_at "wp"
          refine iek (fun c5 => ?_) (fun c5 => ?_)
          · have c6 : c = 126 := sign_eq.mp c5
            walk_at "wp"
            exact cc _ _ (Same.refl _) ⟨c, hc1, by rw [c6]; rfl⟩
          · have c6 : c ≠ 126 := fun e => c5 (by rw [e]; rfl)
            obtain ⟨d1, d2⟩ := dig hk hcl c6
            walk_at "wp"
            exact ⟨_, d1, by show 1 ≤ 640; decide, cc _ _ (Same.refl _) ⟨c, hc1, by rw [d2]; rfl⟩⟩
        · have e3 : ys = z.cps.toList.map fun c => valV (dec c) := map_of_at (by rw [hl2, hzs]) hall2
          have e4 : ys = rowV (z.cps.toList.map dec) := by rw [e3]; unfold rowV; rw [List.map_map]; rfl
          walk_at "wp"
          refine ⟨ys, .inl ⟨.inl (.inl hy), fun p hp => q _ _ (s1.trans (s3.trans (same_upd hp))) ?_⟩⟩
          unfold rd
          rw [if_neg (show ¬ z = ⟨#[]⟩ from c1), if_neg (show ¬ z = ⟨#[46]⟩ from c2), if_pos c4]
          exact is_row (by rw [← e4]; exact upd_same) (by rw [List.length_map, ← hzs]; exact hzl)
end
end Kx

set_option Elab.async false
set_option linter.all false
set_option maxRecDepth 100000
set_option maxHeartbeats 4000000
namespace Kx
open PySem PySem.Spec PyProof.Rows L2
local macro_rules | `(tactic| walk_at "wp") => `(tactic| simp only [tSeq, tAsg, tC, tVar, tOp, tUn, rI, rI0, rU, tCB, tCons, tNil, tRet, tRetN, tDrop, tLst, tTup, tIf_eq, tIfS_eq, ifk_t, ifk_f, iek_t, iek_f, tTest, tB, tAnd, tOr, tNot, tAndV, tOrV, tNotV, tNext, tSl, rSlL, tPart, tNoPart, gName, gTup, gCons, gNil, gSub, rSetL, tCall, iList, iTup, iRng1, iRng2, rIxL, rIxT, rEq, rNe, scal_ii, scal_bb, scal_ss, scal_nx, scal_xn, RZ.iZipA, rIsiF, rIsiFT, vty_non, vty_bl, vty_int, vty_str, isa_list_list, isa_list_tuple, isa_list_bool, isa_list_int, isa_list_str, isa_tuple_list, isa_tuple_tuple, isa_tuple_bool, isa_tuple_int, isa_tuple_str, isa_dict_list, isa_dict_tuple, isa_dict_bool, isa_dict_int, isa_dict_str, isa_bool_list, isa_bool_tuple, isa_bool_bool, isa_bool_int, isa_bool_str, isa_int_list, isa_int_tuple, isa_int_bool, isa_int_int, isa_int_str, isa_str_list, isa_str_tuple, isa_str_bool, isa_str_int, isa_str_str, isa_non_list, isa_non_tuple, isa_non_bool, isa_non_int, isa_non_str, kc_bool, kc_int, kc_str, kc_list, kc_tuple, upd_same, HO.tup.injEq, HO.lst.injEq, V.ty.injEq, Bool.or_true, Bool.true_or, Bool.or_false, Bool.false_or, sz_0, sz_1, sz_2, sz_3, sz_4, sz_5, sz_6, sz_7, sz_8, sz_9, sz_10, sz_11, sz_12, sz_13, decide_true, decide_false, C8.tCut, tPar, tCallN,  tDisp, tPairs, rSlS, rLenS, rLenV, rListOf, rTupOf, tM0, tM1, iStr, wipe, tYes, tFor_eq, tLc_eq, L2.start, cxOf, Cx.nox, Cx.wish, List.map_cons, List.map_nil, List.length_cons, List.length_nil, List.replicate, List.cons_append, List.nil_append, List.getElem?_cons_zero, List.getElem?_cons_succ, List.set_cons_zero, List.set_cons_succ, Option.some.injEq, and_assoc, exists_and_left, exists_and_right, exists_eq_left', exists_eq_left, exists_eq, exists_eq', true_and, and_true, Nat.reduceSub, Nat.reduceAdd, V.int.injEq, V.ref.injEq, V.bl.injEq, V.str.injEq, List.cons.injEq, decide_eq_true_eq, reduceCtorEq, false_or, or_false, and_false, false_and, exists_false, exists_const, if_true, if_false, Bool.true_eq_false, Bool.false_eq_true, ite_true, ite_false, Bool.not_true, Bool.not_false, decide_eq_false_iff_not, ne_eq])

section
variable {P : Program} {w : World} {K : PySem.W.Frag} {mg : Str → Option Value} {base : Heap}
/-- any value: of a known kind, a text not too long -/
def Any (H : Hp) (v : V) : Prop := (∃ n, vty v H = some n) ∧ ∀ z, v = .str z → z.length ≤ 1000
theorem Any.same {H H' : Hp} {v : V} (h : Any H v) (e : Same H H') : Any H' v := by
  obtain ⟨⟨n, hn⟩, hz⟩ := h
  exact ⟨⟨n, vty_same hn e⟩, hz⟩
theorem any_int {H : Hp} {i : Int} : Any H (.int i) := ⟨⟨_, rfl⟩, fun z e => by cases e⟩
theorem any_non {H : Hp} : Any H .non := ⟨⟨_, rfl⟩, fun z e => by cases e⟩
theorem any_bl {H : Hp} {b : Bool} : Any H (.bl b) := ⟨⟨_, rfl⟩, fun z e => by cases e⟩
theorem any_str {H : Hp} {z : Str} (h : z.length ≤ 1000) : Any H (.str z) := ⟨⟨_, rfl⟩, fun y e => by cases e; exact h⟩
theorem any_lst {H : Hp} {a : Addr} {xs : List V} (h : H a = some (.lst xs)) : Any H (.ref a) := ⟨⟨_, vty_lst h⟩, fun z e => by cases e⟩
theorem any_tup {H : Hp} {a : Addr} {xs : List V} (h : H a = some (.tup xs)) : Any H (.ref a) := ⟨⟨_, vty_tup h⟩, fun z e => by cases e⟩
theorem any_dK {H : Hp} {a : Addr} {xs : List (Key × V)} (h : H a = some (.dK xs)) : Any H (.ref a) := ⟨⟨_, vty_dK h⟩, fun z e => by cases e⟩
def sp_any (m : Nat) : Sp := fun vs H Q _ => ∃ (B : BagId), vs = [.ref B.b, .int (m : Nat)] ∧ Bag B H ∧ ∀ v H', Ext B H H' → Any (cut B.b H') v → Q v H'
def lkA : Nat → Sp
  | 0 => fun _ _ _ _ => False
  | m + 1 => sp_any m
theorem iek_c {σ : L2.St} {H : Hp} {Q : VK} {x y : V} {p : Prop} [Decidable p] (h : ∀ v, (p → v = x) → (¬ p → v = y) → Q v H) : IeK (tC x) (tC y) σ Q (decide p) H := by
  refine iek (fun c => h _ (fun _ => rfl) (fun z => absurd c z)) (fun c => h _ (fun z => absurd z c) (fun _ => rfl))
theorem any_step (T : Txt K mg) {m k k' : Nat} (hk : 2 ≤ k) (hk' : k' ≤ k) (G_l_any : FnOk P w K mg base CX0 k' T.l_any.f T.l_any.d ["_law_bag_here", "_law_deep"] (lkA m)) :
    FnOk P w K mg base CX0 (k + 1) T.l_any.f T.l_any.d ["_law_bag_here", "_law_deep"] (lkA (m + 1)) := by
  have G_l_draw : FnOk P w K mg base CX0 1 T.l_draw.f T.l_draw.d ["_law_bag_here", "_law_size"] sp_draw := ok_draw T
  have G_l_of : FnOk P w K mg base CX0 2 T.l_of.f T.l_of.d ["_law_bag_here", "_law_things"] (sp_of K) := ok_of T
  refine T.l_any.F.ok sc_l_any (fun vs H Q E h => ?_) (fun cdv A outer s H vs Q E hr h => ?_)
  · obtain ⟨B, rfl, _⟩ := h
    rfl
  obtain ⟨B, rfl, hB, q⟩ := h
  refine ⟨_, (pss_cons (ps_set (i := 2) sc_l_any.nd rfl (.inl rfl) (pe_call G_l_draw (hr.mono (by omega)) (by rfl) T.l_draw.g T.l_draw.kp T.l_draw.b .nil pass0 (pa_cons (pv 0) (pa_cons (pe_ifExp (pt_cmpR op_eq (pv 1) pe_int (nomark _)) pe_int pe_int) pa_nil))))
      (pss_cons (ps_if (pt_cmpR op_lt (pv 2) pe_int (nomark _))
      (pss_one (ps_ret (pe_ix ix_list (pe_lst (pa_cons pe_non (pa_cons pe_bl (pa_cons pe_bl pa_nil)))) (pv 2) (fun _ _ => rfl))))
      pss_nil)
      (pss_cons (ps_if (pt_cmpR op_lt (pv 2) pe_int (nomark _))
      (pss_one (ps_ret (pe_call G_l_of (hr.mono (by omega)) (by rfl) T.l_of.g T.l_of.kp T.l_of.b .nil pass0 (pa_cons (pv 0) (pa_cons (pe_lst (pa_cons pe_int (pa_cons pe_int (pa_cons pe_int (pa_cons pe_int (pa_cons (pe_op op_sub pe_int pe_int) (pa_cons (pe_call G_l_draw (hr.mono (by omega)) (by rfl) T.l_draw.g T.l_draw.kp T.l_draw.b .nil pass0 (pa_cons (pv 0) (pa_cons pe_int pa_nil))) (pa_cons (pe_op op_sub pe_int (pe_call G_l_draw (hr.mono (by omega)) (by rfl) T.l_draw.g T.l_draw.kp T.l_draw.b .nil pass0 (pa_cons (pv 0) (pa_cons pe_int pa_nil)))) pa_nil)))))))) pa_nil)))))
      pss_nil)
      (pss_cons (ps_if (pt_cmpR op_lt (pv 2) pe_int (nomark _))
      (pss_one (ps_ret (pe_call G_l_of (hr.mono (by omega)) (by rfl) T.l_of.g T.l_of.kp T.l_of.b .nil pass0 (pa_cons (pv 0) (pa_cons (pe_lst (pa_cons pe_str (pa_cons pe_str (pa_cons pe_str (pa_cons pe_str (pa_cons pe_str (pa_cons pe_str pa_nil))))))) pa_nil)))))
      pss_nil)
      (pss_cons (ps_setLc (i := 3) (own := [("_law_k", 4)]) (g := gName 4) rfl sc_l_any.nd rfl rfl (sw_true rfl rfl rfl (by decide +kernel)) (pi_range1 (by rfl) T.z_range (pa_cons (pe_call G_l_draw (hr.mono (by omega)) (by rfl) T.l_draw.g T.l_draw.kp T.l_draw.b .nil pass0 (pa_cons (pv 0) (pa_cons pe_int pa_nil))) pa_nil)) (blkOk_by (own := [("_law_k", 4)]) (N := ["_law_bag_here", "_law_deep", "_law_pick", "_law_parts", "_law_k"]) (sc := defScope s_l_any) (by decide +kernel)) (fun _ _ _ _ _ => (pg_name (i := 4) sc_l_any.nd rfl (.inl rfl))) (fun _ _ _ _ _ => pts_nil) (fun _ _ _ _ _ => (pe_call G_l_any (hr.mono (by omega)) (by rfl) T.l_any.g T.l_any.kp T.l_any.b .nil pass0 (pa_cons (pv 0) (pa_cons (pe_op op_sub (pv 1) pe_int) pa_nil)))))
      (pss_cons (ps_if (pt_cmpR op_eq (pv 2) pe_int (nomark _))
      (pss_one (ps_ret (pe_disp (pps_cons pe_str (pv 3) (pps_cons pe_str pe_int pps_nil)) (by rfl) (by rfl) (fun z => by cases z) (by decide))))
      pss_nil)
      (pss_one (ps_ret (pe_ifExp (pt_cmpR op_lt (pv 2) pe_int (nomark _)) (pv 3) (pe_callTy call_tuple_of (by rfl) T.z_tuple (by decide +kernel) (pa_cons (pv 3) pa_nil))))))))))), ?_⟩
  walk_at "wp"
  refine iek_c fun v v1 v2 => ?_
  obtain ⟨n, rfl, n1, n2⟩ : ∃ n : Int, v = .int n ∧ (m = 0 → n = 9) ∧ (n = 9 ∨ n = 13) := by
    by_cases c : ((m : Nat) : Int) = 0
    · exact ⟨9, v1 c, fun _ => rfl, .inl rfl⟩
    · exact ⟨13, v2 c, fun z => absurd (by rw [z]; rfl) c, .inr rfl⟩
  refine ⟨B, n, rfl, hB, by omega, by omega, fun pick H1 e1 h0 h1 => ?_⟩
  walk_at "wp"
  refine ifk (fun c1 => ?_) (fun c1 => ?_)
  · walk_at "wp"
    intro p hp
    have : pick = 0 ∨ pick = 1 ∨ pick = 2 := by omega
    have e2 : Ext B H1 (upd H1 p (.lst [.non, .bl true, .bl false])) := .new e1.bag hp
    rcases this with rfl | rfl | rfl
    · exact ⟨_, .inl (.inl upd_same), _, rfl, q _ _ (e1.trans e2) any_non⟩
    · exact ⟨_, .inl (.inl upd_same), _, rfl, q _ _ (e1.trans e2) any_bl⟩
    · exact ⟨_, .inl (.inl upd_same), _, rfl, q _ _ (e1.trans e2) any_bl⟩
  walk_at "wp"
  refine ifk (fun c2 => ?_) (fun c2 => ?_)
  · walk_at "wp"
    refine ⟨B, _, rfl, e1.bag, by decide, by decide, fun k2 H2 e2 _ _ => ⟨B, _, rfl, e2.bag, by decide, by decide, fun k3 H3 e3 _ _ => ?_⟩⟩
    walk_at "wp"
    intro p hp
    have e4 := Ext.new (o := HO.lst [V.int 0, V.int 1, V.int 2, V.int 3, V.int (0 - 1), V.int k2, V.int (0 - k3)]) e3.bag hp
    refine ⟨B, p, _, rfl, e4.bag, .inl (.inl (cut_new e3.bag hp)), by simp, by simp, fun v H5 hm e5 => q _ _ (e1.trans (e2.trans (e3.trans (e4.trans e5)))) ?_⟩
    simp only [List.mem_cons, List.not_mem_nil, or_false] at hm
    rcases hm with rfl | rfl | rfl | rfl | rfl | rfl | rfl <;> exact any_int
  walk_at "wp"
  refine ifk (fun c3 => ?_) (fun c3 => ?_)
  · walk_at "wp"
    intro p hp
    have e4 := Ext.new (o := HO.lst [V.str (Str.ofString ""), V.str (Str.ofString "0"), V.str (Str.ofString "or"), V.str (Str.ofString "~"), V.str (Str.ofString "a b"), V.str (Str.ofString "box\n")]) e1.bag hp
    refine ⟨B, p, _, rfl, e4.bag, .inl (.inl (cut_new e1.bag hp)), by decide, by decide, fun v H5 hm e5 => q _ _ (e1.trans (e4.trans e5)) ?_⟩
    simp only [List.mem_cons, List.not_mem_nil, or_false] at hm
    rcases hm with rfl | rfl | rfl | rfl | rfl | rfl <;> exact any_str (by decide)
  walk_at "wp"
  obtain ⟨m, rfl⟩ : ∃ j, m = j + 1 := ⟨m - 1, by omega⟩
  refine ⟨B, _, rfl, e1.bag, by decide, by decide, fun k2 H2 e2 hk0 hk1 => ?_⟩
  walk_at "wp"
  refine ⟨by omega, by omega, ?_⟩
  refine lcB (B := B) (walk_range (n := k2.toNat)) (fun _ _ => True) e2.bag (fun _ _ => trivial) (by omega) (fun i x H3 H4 R hi e3 hy c => ?_) (fun D H3 ys hD e3 hz hlen hall => ?_)
  · obtain ⟨rfl, rfl⟩ := hy
    walk_at "wp"
    refine ⟨B, ?_, e3.bag, fun v H5 e5 _ => c _ _ e5 trivial⟩
    congr 3
    omega
  · have e13 := e1.trans (e2.trans e3)
    have hzD := (cut_some hz).1
    refine ifk (fun c4 => ?_) (fun c4 => ?_)
    · walk_at "wp"
      intro p hp
      refine ⟨[(.inr "or", .ref D), (.inr "a", .int 0)], rfl, by simp, ?_⟩
      rw [upd_upd]
      exact q _ _ (e13.trans (.new e3.bag hp)) (any_dK (cut_new e3.bag hp))
    · walk_at "wp"
      refine iek (fun c5 => ?_) (fun c5 => ?_)
      · walk_at "wp"
        exact q _ _ e13 (any_lst hz)
      · walk_at "wp"
        exact ⟨ys, .inl ⟨.inl (.inl hzD), fun p hp => q _ _ (e13.trans (.new e3.bag hp)) (any_tup (cut_new e3.bag hp))⟩⟩
theorem ok_any (T : Txt K mg) : FnOk P w K mg base CX0 5 T.l_any.f T.l_any.d ["_law_bag_here", "_law_deep"] (sp_any 2) :=
  any_step T (m := 2) (k := 4) (k' := 4) (by decide) (by decide) (any_step T (m := 1) (k := 3) (k' := 3) (by decide) (by decide) (any_step T (m := 0) (k := 2) (k' := 0) (by decide) (by decide) (none_left fun _ _ _ _ h => h)))
def repS (z : Str) (k : Int) : Str := ⟨(List.replicate k.toNat z.cps).foldl (· ++ ·) #[]⟩
theorem rep_size (c : Array Nat) : ∀ (n : Nat) (a : Array Nat), ((List.replicate n c).foldl (· ++ ·) a).size = a.size + n * c.size
  | 0, a => by simp
  | n + 1, a => by
    rw [List.replicate_succ, List.foldl_cons, rep_size c n, Array.size_append, Nat.succ_mul]
    omega
theorem op_rep_str {X : Cx} : OpR X (binaryOp .Mult) (fun x y H Q => ∃ z k, x = .str z ∧ y = .int k ∧ (2 ≤ k ∧ k ≤ 10000 ∧ 0 < z.length ∧ z.length ≤ 1000) ∧ Q (.str (repS z k)) H) := by
  intro pins s σ H x y v u Q I rx ry h
  obtain ⟨z, k, rfl, rfl, ⟨k1, k2, z1, z2⟩, q⟩ := h
  obtain ⟨t, rfl⟩ := rx
  obtain ⟨t', rfl⟩ := ry
  have hs : sizeLine = 16777216 := sizeLine_eq
  have hk : k.toNat ≤ 10000 := by omega
  have hm : z.length * k.toNat ≤ 1000 * 10000 := Nat.mul_le_mul z2 hk
  have e1 : ¬ k < 1 := by omega
  have e2 : (k == 1 || z.length == 0) = false := by
    have a1 : (k == 1) = false := by rw [beq_eq_false_iff_ne]; omega
    have a2 : (z.length == 0) = false := by rw [beq_eq_false_iff_ne]; omega
    rw [a1, a2]
    rfl
  refine PySem.P.mul_str (by rw [decide_eq_false (by omega), decide_eq_false (by omega)]; rfl) (fun _ _ h => ?_) (fun _ _ => ?_) ?_
  · have h1 : (z.length : Int) * k ≤ 1000 * 10000 := Int.mul_le_mul (by omega) (by omega) (by omega) (by omega)
    have h2 : (z.length : Int) ≤ (2 ^ 63 - 1) / k := Int.le_ediv_of_mul_le (by omega) (by omega)
    omega
  · unfold Builtin.Str.tooLong
    exact decide_eq_false (by omega)
  · rw [if_neg e1, if_neg (by rw [e2]; exact Bool.false_ne_true)]
    refine ⟨?_, .str (repS z k), H, I.tok _, ⟨_, rfl⟩, q⟩
    show ((List.replicate k.toNat z.cps).foldl (· ++ ·) #[]).size ≤ sizeLine
    rw [rep_size]
    have : k.toNat * z.cps.size = z.length * k.toNat := Nat.mul_comm _ _
    simp only [Array.size_empty]
    omega
theorem txt_len (r : Row) : 1 ≤ (txt r).length ∧ (txt r).length ≤ r.length + 1 := by
  unfold txt
  by_cases e : r = []
  · rw [if_pos e]
    exact ⟨by decide, by show 1 ≤ _; omega⟩
  · rw [if_neg e]
    show 1 ≤ ((r.map code).toArray).size ∧ ((r.map code).toArray).size ≤ _
    rw [List.size_toArray, List.length_map]
    cases r with
    | nil => exact absurd rfl e
    | cons o r => exact ⟨by rw [List.length_cons]; omega, by omega⟩
theorem cutS_len (z : Str) (lo hi : Option Int) : (cutS z lo hi).length ≤ z.length := by
  unfold cutS
  show (List.toArray _).size ≤ z.cps.size
  rw [List.size_toArray, List.length_take, List.length_drop, Array.length_toList]
  omega
theorem app_len (x y : Str) : (x ++ y).length = x.length + y.length := by
  rw [TL.len_tl, TL.tl_append, List.length_append, ← TL.len_tl, ← TL.len_tl]
theorem sl_small {n : Nat} (h : n ≤ 100000) : n ≤ sizeLine := Nat.le_trans h (by decide)
/-- a thing that is nearly a text -/
def sp_nearly : Sp := fun vs H Q _ => ∃ (B : BagId) (t : Addr) (r : Row), vs = [.ref B.b, .ref t] ∧ Bag B H ∧ cut B.b H t = some (.tup (rowV r)) ∧ RowOk 3 r ∧ r.length ≤ 100 ∧ ∀ v H', Ext B H H' → Any (cut B.b H') v → Q v H'
theorem ok_nearly (T : Txt K mg) : FnOk P w K mg base CX0 6 T.l_nearly_text.f T.l_nearly_text.d ["_law_bag_here", "_law_row_here"] sp_nearly := by
  have G_l_draw : FnOk P w K mg base CX0 1 T.l_draw.f T.l_draw.d ["_law_bag_here", "_law_size"] sp_draw := ok_draw T
  have G_l_of : FnOk P w K mg base CX0 2 T.l_of.f T.l_of.d ["_law_bag_here", "_law_things"] (sp_of K) := ok_of T
  have G_l_text : FnOk P w K mg base CX0 1 T.l_text.f T.l_text.d ["_law_row_here"] sp_text := ok_text T
  have G_l_read : FnOk P w K mg base CX0 1 T.l_read.f T.l_read.d ["_law_text_here", "_law_base"] sp_read := ok_read T
  have G_l_any : FnOk P w K mg base CX0 5 T.l_any.f T.l_any.d ["_law_bag_here", "_law_deep"] (sp_any 2) := ok_any T
  refine T.l_nearly_text.F.ok sc_l_nearly_text (fun vs H Q E h => ?_) (fun cdv A outer s H vs Q E hr h => ?_)
  · obtain ⟨B, t, r, rfl, _⟩ := h
    rfl
  obtain ⟨B, t, r, rfl, hB, ht, hro, hlen, q⟩ := h
  refine ⟨_, (pss_cons (ps_set (i := 2) sc_l_nearly_text.nd rfl (.inl rfl) (pe_call G_l_text (hr.mono (by omega)) (by rfl) T.l_text.g T.l_text.kp T.l_text.b .nil pass0 (pa_cons (pv 1) pa_nil)))
      (pss_cons (ps_set (i := 3) sc_l_nearly_text.nd rfl (.inl rfl) (pe_call G_l_draw (hr.mono (by omega)) (by rfl) T.l_draw.g T.l_draw.kp T.l_draw.b .nil pass0 (pa_cons (pv 0) (pa_cons (pe_callB call_len_str (by rfl) T.z_len PySem.boot_len (pa_cons (pv 2) pa_nil)) pa_nil))))
      (pss_cons (ps_set (i := 4) sc_l_nearly_text.nd rfl (.inl rfl) (pe_call G_l_of (hr.mono (by omega)) (by rfl) T.l_of.g T.l_of.kp T.l_of.b .nil pass0 (pa_cons (pv 0) (pa_cons (pe_lst (pa_cons pe_str (pa_cons pe_str (pa_cons pe_str (pa_cons pe_str (pa_cons pe_str (pa_cons pe_str (pa_cons pe_str (pa_cons pe_str (pa_cons pe_str (pa_cons pe_str (pa_cons pe_str (pa_cons pe_str (pa_cons pe_str pa_nil)))))))))))))) pa_nil))))
      (pss_cons (ps_set (i := 5) sc_l_nearly_text.nd rfl (.inl rfl) (pe_call G_l_of (hr.mono (by omega)) (by rfl) T.l_of.g T.l_of.kp T.l_of.b .nil pass0 (pa_cons (pv 0) (pa_cons (pe_lst (pa_cons (pe_op op_add_str (pe_op op_add_str (pe_slice sl_str (pv 2) po_none (po_some (pv 3))) (pv 4)) (pe_slice sl_str (pv 2) (po_some (pv 3)) po_none)) (pa_cons (pe_op op_add_str (pe_op op_add_str (pe_slice sl_str (pv 2) po_none (po_some (pv 3))) (pv 4)) (pe_slice sl_str (pv 2) (po_some (pe_op op_add (pv 3) pe_int)) po_none)) (pa_cons (pe_op op_add_str (pv 2) (pv 4)) (pa_cons (pe_op op_add_str (pv 4) (pv 2)) pa_nil))))) pa_nil))))
      (C8.pss_cut (ps_if (PW.pt (pw_and (pt_cmpR op_gt (pe_callB call_len_str (by rfl) T.z_len PySem.boot_len (pa_cons (pv 5) pa_nil)) pe_int (nomark _)) (pw_and1 (pt_cmpR op_notN (pe_call G_l_read (hr.mono (by omega)) (by rfl) T.l_read.g T.l_read.kp T.l_read.b .nil pass0 (pa_cons (pv 5) (pa_cons pe_int pa_nil))) pe_non (nomark _)))))
      (pss_one (ps_set (i := 5) sc_l_nearly_text.nd rfl (.inl rfl) (pe_slice sl_str (pv 5) po_none (po_some pe_int))))
      pss_nil)
      (pss_cons (ps_set (i := 6) sc_l_nearly_text.nd rfl (.inl rfl) (pe_call G_l_of (hr.mono (by omega)) (by rfl) T.l_of.g T.l_of.kp T.l_of.b .nil pass0 (pa_cons (pv 0) (pa_cons (pe_lst (pa_cons pe_str (pa_cons pe_str (pa_cons pe_str (pa_cons pe_str (pa_cons pe_str (pa_cons pe_str (pa_cons pe_str (pa_cons pe_str (pa_cons pe_str (pa_cons pe_str (pa_cons pe_str (pa_cons pe_str (pa_cons (pe_op op_add_str (pe_op op_rep_str pe_str pe_int) pe_str) pa_nil)))))))))))))) pa_nil))))
      (pss_cons (ps_set (i := 7) sc_l_nearly_text.nd rfl (.inl rfl) (pe_call G_l_of (hr.mono (by omega)) (by rfl) T.l_of.g T.l_of.kp T.l_of.b .nil pass0 (pa_cons (pv 0) (pa_cons (pe_lst (pa_cons pe_non (pa_cons pe_bl (pa_cons pe_bl (pa_cons pe_int (pa_cons pe_int (pa_cons pe_int (pa_cons (pv 1) (pa_cons (pe_callTy call_list_of (by rfl) T.z_list (by decide +kernel) (pa_cons (pv 1) pa_nil)) (pa_cons (pe_lst (pa_cons (pv 2) pa_nil)) (pa_cons (pe_tup (pa_cons (pv 2) pa_nil)) (pa_cons (pe_disp (pps_cons pe_str (pv 2) pps_nil) (by rfl) (by rfl) (fun z => by cases z) (by decide)) (pa_cons (pe_call G_l_any (hr.mono (by omega)) (by rfl) T.l_any.g T.l_any.kp T.l_any.b .nil pass0 (pa_cons (pv 0) (pa_cons pe_int pa_nil))) pa_nil))))))))))))) pa_nil))))
      (pss_one (ps_ret (pe_call G_l_of (hr.mono (by omega)) (by rfl) T.l_of.g T.l_of.kp T.l_of.b .nil pass0 (pa_cons (pv 0) (pa_cons (pe_lst (pa_cons (pv 2) (pa_cons (pv 5) (pa_cons (pv 5) (pa_cons (pv 5) (pa_cons (pv 6) (pa_cons (pv 7) pa_nil))))))) pa_nil)))))))))))), ?_⟩
  walk_at "wp"
  refine ⟨t, r, rfl, (cut_some ht).1, hro, by omega, fun H1 s1 => ?_⟩
  obtain ⟨tl1, tl2⟩ := txt_len r
  generalize hg : txt r = g at tl1 tl2
  have e1 : Ext B H H1 := .of_same hB s1
  walk_at "wp"
  refine ⟨sl_small (by omega), B, _, rfl, e1.bag, by omega, by omega, fun spot H2 e2 p0 p1 => ?_⟩
  walk_at "wp"
  intro p hp
  refine ⟨B, p, _, rfl, (Ext.new e2.bag hp).bag, .inl (.inl (cut_new e2.bag hp)), by simp, by simp, fun v H3 hm e3 => ?_⟩
  obtain ⟨odd, rfl, ho⟩ : ∃ odd, v = V.str odd ∧ odd.length ≤ 2 := by
    simp only [List.mem_cons, List.not_mem_nil, or_false] at hm
    rcases hm with rfl | rfl | rfl | rfl | rfl | rfl | rfl | rfl | rfl | rfl | rfl | rfl | rfl <;> exact ⟨_, rfl, by decide⟩
  have e4 := e1.trans (e2.trans ((Ext.new e2.bag hp).trans e3))
  have b4 := e3.bag
  clear e1 e2 e3 hm hp
  walk_at "wp"
  have a1 := cutS_len g none (some spot)
  have a2 := cutS_len g (some spot) none
  have a3 := cutS_len g (some (spot + 1)) none
  have l1 := app_len (cutS g none (some spot)) odd
  refine ⟨sl_small (by omega), sl_small (by omega), sl_small (by omega), sl_small (by omega), sl_small (by omega), sl_small (by omega), sl_small (by omega), sl_small (by omega), sl_small (by omega), sl_small (by omega), fun p hp => ?_⟩
  refine ⟨B, p, _, rfl, (Ext.new b4 hp).bag, .inl (.inl (cut_new b4 hp)), by simp, by simp, fun v H4 hm e5 => ?_⟩
  have e6 := e4.trans ((Ext.new b4 hp).trans e5)
  have b6 := e5.bag
  have l2 := app_len (cutS g none (some spot) ++ odd) (cutS g (some spot) none)
  have l3 := app_len (cutS g none (some spot) ++ odd) (cutS g (some (spot + 1)) none)
  have l4 := app_len g odd
  have l5 := app_len odd g
  obtain ⟨bent, rfl, hbent⟩ : ∃ bent, v = V.str bent ∧ bent.length ≤ 500 := by
    simp only [List.mem_cons, List.not_mem_nil, or_false] at hm
    rcases hm with rfl | rfl | rfl | rfl <;> exact ⟨_, rfl, by omega⟩
  clear hm hp e4 b4 e5 l1 l2 l3 l4 l5 a1 a2 a3
  obtain ⟨Mid, hMid⟩ : ∃ M : L2.St → Hp → Prop, ∀ σ H2, M σ H2 ↔ ∃ (bent : Str) (z1 z2 : Option V), σ = [some (V.ref B.b), some (V.ref t), some (V.str g), some (V.int spot), some (V.str odd), some (V.str bent), z1, z2] ∧ bent.length ≤ 500 ∧ Ext B H H2 := ⟨_, fun _ _ => Iff.rfl⟩
  refine ⟨Mid, ?_, fun σ H5 h => ?_⟩
  · walk_at "wp"
    refine ⟨sl_small (by omega), ite2 (fun c1 => ?_) (fun c1 => ?_)⟩
    · refine ⟨.str bent, 3, rfl, .inr rfl, ⟨_, rfl⟩, fun z hz => by cases hz; omega, fun v H5 s5 _ => ?_⟩
      have e7 := e6.trans (.of_same b6 s5)
      refine ifkb (fun c2 => ?_) (fun c2 => ?_)
      · walk_at "wp"
        refine ⟨sl_small (by omega), (hMid _ _).mpr ⟨_, _, _, rfl, ?_, e7⟩⟩
        have := cutS_len bent none (some 8)
        omega
      · walk_at "wp"
        exact (hMid _ _).mpr ⟨_, _, _, rfl, hbent, e7⟩
    · exact (hMid _ _).mpr ⟨_, _, _, rfl, hbent, e6⟩
  · obtain ⟨bent, z1, z2, rfl, hbent, e7⟩ := (hMid _ _).mp h
    clear h hMid e6 b6
    walk_at "wp"
    refine ⟨by decide, by decide, by decide, by decide, by decide, fun p hp => ?_⟩
    refine ⟨B, p, _, rfl, (Ext.new e7.bag hp).bag, .inl (.inl (cut_new e7.bag hp)), by simp, by simp, fun v H6 hm e8 => ?_⟩
    obtain ⟨strange, rfl, hst⟩ : ∃ strange, v = V.str strange ∧ strange.length ≤ 20 := by
      simp only [List.mem_cons, List.not_mem_nil, or_false] at hm
      rcases hm with rfl | rfl | rfl | rfl | rfl | rfl | rfl | rfl | rfl | rfl | rfl | rfl | rfl <;> exact ⟨_, rfl, by decide⟩
    have e9 := e7.trans ((Ext.new e7.bag hp).trans e8)
    have b9 := e8.bag
    have t9 := e9.same _ _ ht
    clear hm hp e7 e8
    refine ⟨rowV r, .inr (.inl (.inl (cut_some t9).1)), fun l hl p1 hp1 p2 hp2 p3 hp3 => ⟨[(.inr "0", .str g)], rfl, by simp, ?_⟩⟩
    rw [upd_upd]
    have x1 := Ext.new (o := .lst (rowV r)) b9 hl
    have x2 := Ext.new (o := .lst [V.str g]) x1.bag hp1
    have x3 := Ext.new (o := .tup [V.str g]) x2.bag hp2
    have x4 := Ext.new (o := .dK (mergeK [] [(.inr "0", .str g)])) x3.bag hp3
    have f1 := ((x2.trans x3).trans x4).same _ _ (cut_new (o := .lst (rowV r)) b9 hl)
    have f2 := (x3.trans x4).same _ _ (cut_new (o := .lst [V.str g]) x1.bag hp1)
    have f3 := x4.same _ _ (cut_new (o := .tup [V.str g]) x2.bag hp2)
    have f4 := cut_new (o := .dK (mergeK [] [(.inr "0", .str g)])) x3.bag hp3
    have x5 := x1.trans (x2.trans (x3.trans x4))
    have f0 := x5.same _ _ t9
    clear x1 x2 x3 x4
    generalize upd (upd (upd (upd H6 l (HO.lst (rowV r))) p1 (HO.lst [V.str g])) p2 (HO.tup [V.str g])) p3 (HO.dK (mergeK [] [(Sum.inr (Str.ofString "0"), V.str g)])) = H7 at x5 f0 f1 f2 f3 f4 ⊢
    refine ⟨B, rfl, x5.bag, fun v H8 x6 hv p4 hp4 => ?_⟩
    have x7 := Ext.new (o := HO.lst [V.non, V.bl true, V.bl false, V.int 0, V.int 1, V.int 10, V.ref t, V.ref l, V.ref p1, V.ref p2, V.ref p3, v]) x6.bag hp4
    refine ⟨B, p4, _, rfl, x7.bag, .inl (.inl (cut_new x6.bag hp4)), by simp, by simp, fun v2 H9 hm x8 p5 hp5 => ?_⟩
    have x9 := Ext.new (o := HO.lst [V.str g, V.str bent, V.str bent, V.str bent, V.str strange, v2]) x8.bag hp5
    refine ⟨B, p5, _, rfl, x9.bag, .inl (.inl (cut_new x8.bag hp5)), by simp, by simp, fun v3 H10 hm2 x10 => ?_⟩
    have y1 := x6.trans (x7.trans (x8.trans (x9.trans x10)))
    have y2 := x7.trans (x8.trans (x9.trans x10))
    refine q _ _ (e9.trans (x5.trans y1)) ?_
    simp only [List.mem_cons, List.not_mem_nil, or_false] at hm hm2
    rcases hm2 with rfl | rfl | rfl | rfl | rfl | rfl
    · exact any_str (by omega)
    · exact any_str (by omega)
    · exact any_str (by omega)
    · exact any_str (by omega)
    · exact any_str (by omega)
    rcases hm with rfl | rfl | rfl | rfl | rfl | rfl | rfl | rfl | rfl | rfl | rfl | rfl
    · exact any_non
    · exact any_bl
    · exact any_bl
    · exact any_int
    · exact any_int
    · exact any_int
    · exact any_tup (y1.same _ _ f0)
    · exact any_lst (y1.same _ _ f1)
    · exact any_lst (y1.same _ _ f2)
    · exact any_tup (y1.same _ _ f3)
    · exact any_dK (y1.same _ _ f4)
    · exact hv.same y2.same
end
end Kx

set_option Elab.async false
set_option linter.all false
set_option maxRecDepth 100000
set_option maxHeartbeats 4000000
namespace Kx
open PySem PySem.Spec PyProof.Rows L2
local macro_rules | `(tactic| walk_at "wp") => `(tactic| simp only [tSeq, tAsg, tC, tVar, tOp, tUn, rI, rI0, rU, tCB, tCons, tNil, tRet, tRetN, tDrop, tLst, tTup, tIf_eq, tIfS_eq, ifk_t, ifk_f, iek_t, iek_f, tTest, tB, tAnd, tOr, tNot, tAndV, tOrV, tNotV, tNext, tSl, rSlL, tPart, tNoPart, gName, gTup, gCons, gNil, gSub, rSetL, tCall, iList, iTup, iRng1, iRng2, rIxL, rIxT, rEq, rNe, scal_ii, scal_bb, scal_ss, scal_nx, scal_xn, RZ.iZipA, rIsiF, rIsiFT, vty_non, vty_bl, vty_int, vty_str, isa_list_list, isa_list_tuple, isa_list_bool, isa_list_int, isa_list_str, isa_tuple_list, isa_tuple_tuple, isa_tuple_bool, isa_tuple_int, isa_tuple_str, isa_dict_list, isa_dict_tuple, isa_dict_bool, isa_dict_int, isa_dict_str, isa_bool_list, isa_bool_tuple, isa_bool_bool, isa_bool_int, isa_bool_str, isa_int_list, isa_int_tuple, isa_int_bool, isa_int_int, isa_int_str, isa_str_list, isa_str_tuple, isa_str_bool, isa_str_int, isa_str_str, isa_non_list, isa_non_tuple, isa_non_bool, isa_non_int, isa_non_str, kc_bool, kc_int, kc_str, kc_list, kc_tuple, upd_same, HO.tup.injEq, HO.lst.injEq, V.ty.injEq, Bool.or_true, Bool.true_or, Bool.or_false, Bool.false_or, sz_0, sz_1, sz_2, sz_3, sz_4, sz_5, sz_6, sz_7, sz_8, sz_9, sz_10, sz_11, sz_12, sz_13, decide_true, decide_false, C8.tCut, tPar, tCallN,  tDisp, tPairs, rSlS, rLenS, rLenV, rListOf, rTupOf, tM0, tM1, iStr, wipe, tYes, tFor_eq, tLc_eq, L2.start, cxOf, Cx.nox, Cx.wish, List.map_cons, List.map_nil, List.length_cons, List.length_nil, List.replicate, List.cons_append, List.nil_append, List.getElem?_cons_zero, List.getElem?_cons_succ, List.set_cons_zero, List.set_cons_succ, Option.some.injEq, and_assoc, exists_and_left, exists_and_right, exists_eq_left', exists_eq_left, exists_eq, exists_eq', true_and, and_true, Nat.reduceSub, Nat.reduceAdd, V.int.injEq, V.ref.injEq, V.bl.injEq, V.str.injEq, List.cons.injEq, decide_eq_true_eq, reduceCtorEq, false_or, or_false, and_false, false_and, exists_false, exists_const, if_true, if_false, Bool.true_eq_false, Bool.false_eq_true, ite_true, ite_false, Bool.not_true, Bool.not_false, decide_eq_false_iff_not, ne_eq])

section
variable {P : Program} {w : World} {K : PySem.W.Frag} {mg : Str → Option Value} {base : Heap}
def sp_law (K : PySem.W.Frag) : Sp := fun vs H Q _ => ∃ (a : Addr) (ns : List Int), vs = [.ref a] ∧ SqL K H a (ns.map V.int) ∧ ns.length ≤ 63 ∧ ∀ H', Q (.bl true) H'
theorem is_list2 {H : Hp} {n : Nat} {p : Addr} {d1 d2 : PyData} {v1 v2 : V} (h : H p = some (.lst [v1, v2])) (h1 : Is H n d1 v1) (h2 : Is H n d2 v2) : Is H (n + 1) (.list [d1, d2]) (.ref p) := by
  unfold Is
  exact ⟨by simp, p, _, rfl, h, .cons h1 (.cons h2 .nil)⟩
theorem is_str {H : Hp} {n : Nat} {z : Str} : Is H n (.str z) (.str z) := by unfold Is; rfl
theorem k5 {k : Int} (hk : k = 2 ∨ k = 3) : 5 - k = 2 ∨ 5 - k = 3 := by omega
theorem RowOk.three {k : Int} {r : Row} (h : RowOk k r) (hk : k = 2 ∨ k = 3) : RowOk 3 r := fun i hi => by
  have := h i hi
  omega
theorem ok_law (T : Txt K mg) {fa : Addr} {fd : FuncData} (F : Fun K "law" "law" s_law fa fd) : FnOk P w K mg base CX0 7 fa fd ["_law_script"] (sp_law K) := by
  have G_l_bag : FnOk P w K mg base CX0 1 T.l_bag.f T.l_bag.d ["_law_script"] (sp_bag K) := ok_bag T
  have G_l_draw : FnOk P w K mg base CX0 1 T.l_draw.f T.l_draw.d ["_law_bag_here", "_law_size"] sp_draw := ok_draw T
  have G_l_of : FnOk P w K mg base CX0 2 T.l_of.f T.l_of.d ["_law_bag_here", "_law_things"] (sp_of K) := ok_of T
  have G_l_row : FnOk P w K mg base CX0 3 T.l_row.f T.l_row.d ["_law_bag_here", "_law_n", "_law_base"] (sp_row K) := ok_row T
  have G_l_text : FnOk P w K mg base CX0 1 T.l_text.f T.l_text.d ["_law_row_here"] sp_text := ok_text T
  have G_row_text : FnOk P w K mg base CX0 1 T.row_text.f T.row_text.d ["row"] sp_text := ok_row_text T
  have G_l_read : FnOk P w K mg base CX0 1 T.l_read.f T.l_read.d ["_law_text_here", "_law_base"] sp_read := ok_read T
  have G_read_row : FnOk P w K mg base CX0 1 T.read_row.f T.read_row.d ["text", "signs"] sp_read := ok_read_row T
  have G_l_nearly_text : FnOk P w K mg base CX0 6 T.l_nearly_text.f T.l_nearly_text.d ["_law_bag_here", "_law_row_here"] sp_nearly := ok_nearly T
  have G_l_like : FnOk P w K mg base CX0 3 T.l_like.f T.l_like.d ["_law_found", "_law_due"] (sp_like 2) := ok_like T 3
  obtain ⟨mv_read_row, kb_read_row⟩ := kb_read T
  obtain ⟨ds_read_row, v_read_row, b_read_row⟩ := b1_read T
  refine F.ok sc_law (fun vs H Q E h => ?_) (fun cdv A outer s H vs Q E hr h => ?_)
  · obtain ⟨a, ns, rfl, _⟩ := h
    rfl
  obtain ⟨a, ns, rfl, hS, hlen, q⟩ := h
  refine ⟨_, (pss_cons (ps_set (i := 1) sc_law.nd rfl (.inl rfl) (pe_call G_l_bag (hr.mono (by omega)) (by rfl) T.l_bag.g T.l_bag.kp T.l_bag.b .nil pass0 (pa_cons (pv 0) pa_nil)))
      (pss_cons (ps_for PassesOwn.never rfl (pi_range1 (by rfl) T.z_range (pa_cons pe_int pa_nil)) (pg_name (i := 2) sc_law.nd rfl (.inl rfl))
      (pss_cons (ps_par (i := 3) (j := 4) (by rfl) sc_law.nd rfl rfl (by decide) rfl rfl (pa_cons (pe_op op_add pe_int (pe_call G_l_draw (hr.mono (by omega)) (by rfl) T.l_draw.g T.l_draw.kp T.l_draw.b .nil pass0 (pa_cons (pv 1) (pa_cons pe_int pa_nil)))) (pa_cons (pe_call G_l_of (hr.mono (by omega)) (by rfl) T.l_of.g T.l_of.kp T.l_of.b .nil pass0 (pa_cons (pv 1) (pa_cons (pe_lst (pa_cons pe_int (pa_cons pe_int (pa_cons pe_int (pa_cons pe_int (pa_cons pe_int (pa_cons pe_int (pa_cons (pe_call G_l_draw (hr.mono (by omega)) (by rfl) T.l_draw.g T.l_draw.kp T.l_draw.b .nil pass0 (pa_cons (pv 1) (pa_cons pe_int pa_nil))) (pa_cons pe_int pa_nil))))))))) pa_nil))) pa_nil)) (by rfl))
      (pss_cons (ps_set (i := 5) sc_law.nd rfl (.inl rfl) (pe_call G_l_row (hr.mono (by omega)) (by rfl) T.l_row.g T.l_row.kp T.l_row.b .nil pass0 (pa_cons (pv 1) (pa_cons (pv 4) (pa_cons (pv 3) pa_nil)))))
      (pss_cons (ps_set (i := 6) sc_law.nd rfl (.inl rfl) (pe_call G_row_text (hr.mono (by omega)) (by rfl) T.row_text.g T.row_text.kp T.row_text.b .nil pass0 (pa_cons (pv 5) pa_nil)))
      (pss_cons (ps_if (PW.pt (pw_or (pt_not (pt_val (pe_call G_l_like (hr.mono (by omega)) (by rfl) T.l_like.g T.l_like.kp T.l_like.b .nil pass0 (pa_cons (pv 6) (pa_cons (pe_call G_l_text (hr.mono (by omega)) (by rfl) T.l_text.g T.l_text.kp T.l_text.b .nil pass0 (pa_cons (pv 5) pa_nil)) pa_nil))))) (pw_or1 (pt_not (pt_val (pe_call G_l_like (hr.mono (by omega)) (by rfl) T.l_like.g T.l_like.kp T.l_like.b .nil pass0 (pa_cons (pe_callN G_read_row (hr.mono (by omega)) (by rfl) T.read_row.g T.read_row.F.kp kb_read_row pass0 (pa_cons (pv 6) pa_nil) (pk_cons (pv 3) pk_nil)) (pa_cons (pv 5) pa_nil))))))))
      (pss_one (ps_ret pe_bl))
      pss_nil)
      (pss_cons (ps_set (i := 7) sc_law.nd rfl (.inl rfl) (pe_lst (pa_cons (pe_call G_l_read (hr.mono (by omega)) (by rfl) T.l_read.g T.l_read.kp T.l_read.b .nil pass0 (pa_cons (pv 6) (pa_cons (pe_op op_sub pe_int (pv 3)) pa_nil))) (pa_cons (pe_call G_l_read (hr.mono (by omega)) (by rfl) T.l_read.g T.l_read.kp T.l_read.b .nil pass0 (pa_cons (pv 6) (pa_cons pe_int pa_nil))) pa_nil))))
      (pss_cons (ps_if (pt_not (pt_val (pe_call G_l_like (hr.mono (by omega)) (by rfl) T.l_like.g T.l_like.kp T.l_like.b .nil pass0 (pa_cons (pe_lst (pa_cons (pe_callN G_read_row (hr.mono (by omega)) (by rfl) T.read_row.g T.read_row.F.kp kb_read_row pass0 (pa_cons (pv 6) pa_nil) (pk_cons (pe_op op_sub pe_int (pv 3)) pk_nil)) (pa_cons (pe_call G_read_row (hr.mono (by omega)) (by rfl) T.read_row.g T.read_row.F.kp b_read_row v_read_row pass0 (pa_cons (pv 6) pa_nil)) pa_nil))) (pa_cons (pv 7) pa_nil)))))
      (pss_one (ps_ret pe_bl))
      pss_nil)
      (pss_cons (ps_set (i := 8) sc_law.nd rfl (.inl rfl) (pe_call G_l_nearly_text (hr.mono (by omega)) (by rfl) T.l_nearly_text.g T.l_nearly_text.kp T.l_nearly_text.b .nil pass0 (pa_cons (pv 1) (pa_cons (pv 5) pa_nil))))
      (pss_cons (ps_set (i := 9) sc_law.nd rfl (.inl rfl) (pe_call G_l_read (hr.mono (by omega)) (by rfl) T.l_read.g T.l_read.kp T.l_read.b .nil pass0 (pa_cons (pv 8) (pa_cons (pv 3) pa_nil))))
      (pss_cons (ps_set (i := 10) sc_law.nd rfl (.inl rfl) (pe_callN G_read_row (hr.mono (by omega)) (by rfl) T.read_row.g T.read_row.F.kp kb_read_row pass0 (pa_cons (pv 8) pa_nil) (pk_cons (pv 3) pk_nil)))
      (pss_cons (ps_if (PW.pt (pw_or (pt_not (pt_val (pe_call G_l_like (hr.mono (by omega)) (by rfl) T.l_like.g T.l_like.kp T.l_like.b .nil pass0 (pa_cons (pv 10) (pa_cons (pv 9) pa_nil))))) (pw_or1 (pt_not (pt_val (pe_call G_l_like (hr.mono (by omega)) (by rfl) T.l_like.g T.l_like.kp T.l_like.b .nil pass0 (pa_cons (pe_call G_read_row (hr.mono (by omega)) (by rfl) T.read_row.g T.read_row.F.kp b_read_row v_read_row pass0 (pa_cons (pv 8) pa_nil)) (pa_cons (pe_call G_l_read (hr.mono (by omega)) (by rfl) T.l_read.g T.l_read.kp T.l_read.b .nil pass0 (pa_cons (pv 8) (pa_cons pe_int pa_nil))) pa_nil))))))))
      (pss_one (ps_ret pe_bl))
      pss_nil)
      (pss_cons (ps_if (PW.pt (pw_and (pt_cmpR op_notN (pv 10) pe_non (nomark _)) (pw_and1 (pt_not (pt_val (pe_call G_l_like (hr.mono (by omega)) (by rfl) T.l_like.g T.l_like.kp T.l_like.b .nil pass0 (pa_cons (pe_call G_row_text (hr.mono (by omega)) (by rfl) T.row_text.g T.row_text.kp T.row_text.b .nil pass0 (pa_cons (pv 10) pa_nil)) (pa_cons (pv 8) pa_nil))))))))
      (pss_one (ps_ret pe_bl))
      pss_nil)
      (pss_one (ps_if (pt_not (pt_val (pe_call G_l_like (hr.mono (by omega)) (by rfl) T.l_like.g T.l_like.kp T.l_like.b .nil pass0 (pa_cons (pe_callN G_read_row (hr.mono (by omega)) (by rfl) T.read_row.g T.read_row.F.kp kb_read_row pass0 (pa_cons (pe_call G_l_text (hr.mono (by omega)) (by rfl) T.l_text.g T.l_text.kp T.l_text.b .nil pass0 (pa_cons (pv 5) pa_nil)) pa_nil) (pk_cons (pv 3) pk_nil)) (pa_cons (pv 5) pa_nil)))))
      (pss_one (ps_ret pe_bl))
      pss_nil))))))))))))))
      (pss_one (ps_ret pe_bl)))), ?_⟩
  walk_at "wp"
  refine ⟨a, ns, rfl, hS, hlen, fun B H0 s0 hB0 => ⟨by decide, by decide, ?_⟩⟩
  obtain ⟨Pv, hPv⟩ : ∃ M : L2.St → Hp → Prop, ∀ σ H2, M σ H2 ↔ ∃ z2 z3 z4 z5 z6 z7 z8 z9 z10 : Option V, σ = [some (.ref a), some (.ref B.b), z2, z3, z4, z5, z6, z7, z8, z9, z10] ∧ Bag B H2 := ⟨_, fun _ _ => Iff.rfl⟩
  refine lp_it (walk_range (n := 6)) (fun _ => Pv) ((hPv _ _).mpr ⟨_, _, _, _, _, _, _, _, _, rfl, hB0⟩) (fun _ _ _ _ _ => trivial) (fun i x σ H1 H2 hi h hy => ?_) (fun σ H1 h => ?_)
  · obtain ⟨z2, z3, z4, z5, z6, z7, z8, z9, z10, rfl, hB⟩ := (hPv _ _).mp h
    obtain ⟨rfl, rfl⟩ := hy
    walk_at "wp"
    refine ⟨B, _, rfl, hB, by decide, by decide, fun d1 H3 e3 d10 d11 => ?_⟩
    have b3 := e3.bag
    walk_at "wp"
    refine ⟨B, _, rfl, b3, by decide, by decide, fun d2 H4 e4 d20 d21 => ?_⟩
    have b4 := e4.bag
    walk_at "wp"
    intro p hp
    refine ⟨B, p, _, rfl, (Ext.new b4 hp).bag, .inl (.inl (cut_new b4 hp)), by simp, by simp, fun v H5 hm e5 => ?_⟩
    have b5 := e5.bag
    obtain ⟨n, rfl, n0, n1⟩ : ∃ n : Int, v = .int n ∧ 0 ≤ n ∧ n ≤ 8 := by
      simp only [List.mem_cons, List.not_mem_nil, or_false] at hm
      rcases hm with rfl | rfl | rfl | rfl | rfl | rfl | rfl | rfl <;> exact ⟨_, rfl, by omega, by omega⟩
    clear hm hp e5 e4 e3 hB b3 b4
    have hk : 2 + d1 = 2 ∨ 2 + d1 = 3 := by omega
    generalize 2 + d1 = k at hk ⊢
    walk_at "wp"
    refine ⟨B, n, k, rfl, b5, n0, by omega, hk, fun t r H6 ht0 e6 ht hrl hro => ?_⟩
    have b6 := e6.bag
    clear e6 ht0
    have hro3 := hro.three hk
    walk_at "wp"
    refine ⟨t, r, rfl, (cut_some ht).1, hro3, by omega, fun H7 s7 => ?_⟩
    walk_at "wp"
    refine ⟨t, r, rfl, s7 _ _ (cut_some ht).1, hro3, by omega, fun H8 s8 => ?_⟩
    refine ⟨_, _, .str (txt r), rfl, is_str, is_str, fun H9 s9 => ?_⟩
    have sa := s7.trans (s8.trans s9)
    clear s7 s8 s9
    walk_at "wp"
    have tl := (txt_len r).2
    have htx : ∀ z, V.str (txt r) = .str z → z.length ≤ 1000 := fun z hz => by cases hz; omega
    have ht9 := sa _ _ (cut_some ht).1
    refine ⟨.str (txt r), k, rfl, hk, ⟨_, rfl⟩, htx, fun v H10 s10 hv => ?_⟩
    rw [show rdv (.str (txt r)) k = some r from rd_txt hk hro] at hv
    refine ⟨v, .ref t, rowD r, rfl, hv.up, (is_row (n := 1) (s10 _ _ ht9) (by omega)), fun H11 s11 => ?_⟩
    have sb := sa.trans (s10.trans s11)
    clear sa s10 s11 hv ht9
    walk_at "wp"
    refine ⟨.str (txt r), 5 - k, rfl, k5 hk, ⟨_, rfl⟩, htx, fun v1 H12 s12 hv1 => ?_⟩
    refine ⟨.str (txt r), 2, rfl, .inl rfl, ⟨_, rfl⟩, htx, fun v2 H13 s13 hv2 => ?_⟩
    walk_at "wp"
    intro p1 hp1
    refine ⟨.str (txt r), 5 - k, rfl, k5 hk, ⟨_, rfl⟩, htx, fun v3 H14 s14 hv3 => ?_⟩
    refine ⟨.str (txt r), 2, rfl, .inl rfl, ⟨_, rfl⟩, htx, fun v4 H15 s15 hv4 => ?_⟩
    walk_at "wp"
    intro p2 hp2
    have u1 : Same H13 (upd H13 p1 (.lst [v1, v2])) := same_upd hp1
    have u2 : Same H15 (upd H15 p2 (.lst [v3, v4])) := same_upd hp2
    have w1 : (upd H15 p2 (.lst [v3, v4])) p1 = some (.lst [v1, v2]) := u2 _ _ (s15 _ _ (s14 _ _ upd_same))
    refine ⟨_, _, .list [optD (rdv (.str (txt r)) (5 - k)), optD (rdv (.str (txt r)) 2)], rfl, is_list2 upd_same (hv3.same (s15.trans u2)) (hv4.same u2), is_list2 w1 (hv1.same (s13.trans (u1.trans (s14.trans (s15.trans u2))))) (hv2.same (u1.trans (s14.trans (s15.trans u2)))), fun H16 s16 => ?_⟩
    have sc := sb.trans (s12.trans (s13.trans (u1.trans (s14.trans (s15.trans (u2.trans s16))))))
    have e16 : Ext B H6 H16 := .of_same b6 sc
    have ht16 := e16.same _ _ ht
    have b16 := e16.bag
    clear sb s12 s13 u1 s14 s15 u2 s16 w1 hp1 hp2 hv1 hv2 hv3 hv4 e16 sc ht b6
    walk_at "wp"
    refine ⟨B, t, r, rfl, b16, ht16, hro3, by omega, fun th H17 e17 hth => ?_⟩
    have hth' : Any H17 th := hth.same cut_out
    have b17 := e17.bag
    have ht17 := (cut_some (e17.same _ _ ht16)).1
    clear e17 ht16 b16
    walk_at "wp"
    refine ⟨th, k, rfl, hk, hth'.1, hth'.2, fun due H18 s18 hdue => ?_⟩
    walk_at "wp"
    refine ⟨th, k, rfl, hk, (hth'.same s18).1, hth'.2, fun found H19 s19 hfound => ?_⟩
    walk_at "wp"
    refine ⟨found, due, _, rfl, hfound.up, (hdue.same s19).up, fun H20 s20 => ?_⟩
    have hth20 := hth'.same (s18.trans (s19.trans s20))
    walk_at "wp"
    refine ⟨th, 2, rfl, .inl rfl, hth20.1, hth20.2, fun v5 H21 s21 hv5 => ?_⟩
    refine ⟨th, 2, rfl, .inl rfl, (hth20.same s21).1, hth20.2, fun v6 H22 s22 hv6 => ?_⟩
    refine ⟨v5, v6, _, rfl, (hv5.same s22).up, hv6.up, fun H23 s23 => ?_⟩
    have sd := s18.trans (s19.trans (s20.trans (s21.trans (s22.trans s23))))
    have hf23 := hfound.same (s20.trans (s21.trans (s22.trans s23)))
    clear s18 s19 s20 s21 s22 s23 hv5 hv6 hdue hfound hth20
    walk_at "wp"
    cases er : rdv th k with
    | none =>
      rw [er] at hf23
      unfold optD Is at hf23
      subst hf23
      walk_at "wp"
      refine ⟨t, r, rfl, (Same.refl H23) _ _ (sd _ _ ht17), hro3, by omega, fun H26 s26 => ?_⟩
      refine ⟨.str (txt r), k, rfl, hk, ⟨_, rfl⟩, htx, fun v7 H27 s27 hv7 => ?_⟩
      rw [show rdv (.str (txt r)) k = some r from rd_txt hk hro] at hv7
      refine ⟨v7, .ref t, rowD r, rfl, hv7.up, is_row (n := 1) (s27 _ _ (s26 _ _ ((Same.refl H23) _ _ (sd _ _ ht17)))) (by omega), fun H28 s28 => ?_⟩
      walk_at "wp"
      exact (hPv _ _).mpr ⟨_, _, _, _, _, _, _, _, _, rfl, b17.same (sd.trans ((Same.refl H23).trans (s26.trans (s27.trans s28))))⟩
    | some r2 =>
      rw [er] at hf23
      obtain ⟨a2, rfl, ha2⟩ := of_is_row hf23
      obtain ⟨z, rfl, hz⟩ : ∃ z, th = .str z ∧ rd z k = some r2 := by
        unfold rdv at er
        split at er
        · exact ⟨_, rfl, er⟩
        · cases er
      obtain ⟨ro2, tx2, ln2⟩ := rd_ok hk hz
      have hzl := hth'.2 z rfl
      walk_at "wp"
      refine ⟨a2, r2, rfl, ha2, ro2.three hk, by omega, fun H24 s24 => ?_⟩
      refine ⟨_, _, .str z, rfl, by rw [tx2]; exact is_str, is_str, fun H25 s25 => ?_⟩
      have sx := s24.trans s25
      walk_at "wp"
      refine ⟨t, r, rfl, sx _ _ (sd _ _ ht17), hro3, by omega, fun H26 s26 => ?_⟩
      refine ⟨.str (txt r), k, rfl, hk, ⟨_, rfl⟩, htx, fun v7 H27 s27 hv7 => ?_⟩
      rw [show rdv (.str (txt r)) k = some r from rd_txt hk hro] at hv7
      refine ⟨v7, .ref t, rowD r, rfl, hv7.up, is_row (n := 1) (s27 _ _ (s26 _ _ (sx _ _ (sd _ _ ht17)))) (by omega), fun H28 s28 => ?_⟩
      walk_at "wp"
      exact (hPv _ _).mpr ⟨_, _, _, _, _, _, _, _, _, rfl, b17.same (sd.trans (sx.trans (s26.trans (s27.trans s28))))⟩
  · obtain ⟨z2, z3, z4, z5, z6, z7, z8, z9, z10, rfl, hB⟩ := (hPv _ _).mp h
    walk_at "wp"
    exact q _
end
end Kx

set_option Elab.async false
set_option linter.all false
set_option maxRecDepth 100000
set_option maxHeartbeats 4000000
namespace Kx
open PySem PySem.Spec PyProof.Rows L2
theorem all_mk {l : PySem.W.OpenLaw} {w : World} {K : PySem.W.Frag} {h : Heap} {mg : Str → Option Value} {fa : Addr} (X : K.In h) (G : h.Ns mainGlobals mg) (hfa : mg "law" = some (.ref fa))
    {f_row_text : Addr} {od_row_text an_row_text : Option Addr} {sl_row_text : Array (Option Value)} {oc_row_text dc_row_text pm_row_text cd_row_text ct_row_text : Value}
    {kV_row_text : Value}
    {f_read_row : Addr} {od_read_row an_read_row : Option Addr} {sl_read_row : Array (Option Value)} {oc_read_row dc_read_row pm_read_row cd_read_row ct_read_row : Value}
    {D_read_row : Addr}
    {u_read_row_signs : Tok}
    {f_l_bag : Addr} {od_l_bag an_l_bag : Option Addr} {sl_l_bag : Array (Option Value)} {oc_l_bag dc_l_bag pm_l_bag cd_l_bag ct_l_bag : Value}
    {kV_l_bag : Value}
    {f_l_draw : Addr} {od_l_draw an_l_draw : Option Addr} {sl_l_draw : Array (Option Value)} {oc_l_draw dc_l_draw pm_l_draw cd_l_draw ct_l_draw : Value}
    {kV_l_draw : Value}
    {f_l_of : Addr} {od_l_of an_l_of : Option Addr} {sl_l_of : Array (Option Value)} {oc_l_of dc_l_of pm_l_of cd_l_of ct_l_of : Value}
    {kV_l_of : Value}
    {f_l_like : Addr} {od_l_like an_l_like : Option Addr} {sl_l_like : Array (Option Value)} {oc_l_like dc_l_like pm_l_like cd_l_like ct_l_like : Value}
    {kV_l_like : Value}
    {f_l_any : Addr} {od_l_any an_l_any : Option Addr} {sl_l_any : Array (Option Value)} {oc_l_any dc_l_any pm_l_any cd_l_any ct_l_any : Value}
    {kV_l_any : Value}
    {f_l_values : Addr} {od_l_values an_l_values : Option Addr} {sl_l_values : Array (Option Value)} {oc_l_values dc_l_values pm_l_values cd_l_values ct_l_values : Value}
    {kV_l_values : Value}
    {f_l_row : Addr} {od_l_row an_l_row : Option Addr} {sl_l_row : Array (Option Value)} {oc_l_row dc_l_row pm_l_row cd_l_row ct_l_row : Value}
    {kV_l_row : Value}
    {f_l_text : Addr} {od_l_text an_l_text : Option Addr} {sl_l_text : Array (Option Value)} {oc_l_text dc_l_text pm_l_text cd_l_text ct_l_text : Value}
    {kV_l_text : Value}
    {f_l_read : Addr} {od_l_read an_l_read : Option Addr} {sl_l_read : Array (Option Value)} {oc_l_read dc_l_read pm_l_read cd_l_read ct_l_read : Value}
    {kV_l_read : Value}
    {f_l_nearly_text : Addr} {od_l_nearly_text an_l_nearly_text : Option Addr} {sl_l_nearly_text : Array (Option Value)} {oc_l_nearly_text dc_l_nearly_text pm_l_nearly_text cd_l_nearly_text ct_l_nearly_text : Value}
    {kV_l_nearly_text : Value}
    {f_law : Addr} {od_law an_law : Option Addr} {sl_law : Array (Option Value)} {oc_law dc_law pm_law cd_law ct_law : Value}
    {kV_law : Value}
    {t_NO_INPUTS : Tok}
    {t_NEVER : Tok}
    {t_ROW_LETTERS : Tok}
    (h_a_row_text : PySem.W.nsIn K mainGlobals "row_text" = some (some (.ref f_row_text)))
    (h_l_row_text : K.lookup f_row_text = some ⟨oc_row_text, od_row_text, .func (PySem.W.fnOf "row_text" "row_text" (defArgs s_row_text) (defBody s_row_text) (defScope s_row_text) .none kV_row_text dc_row_text pm_row_text an_row_text cd_row_text ct_row_text), sl_row_text⟩)
    (h_c_row_text : PySem.W.codeIn K cd_row_text "row_text" = true)
    (h_k_row_text : PySem.W.keepIn K (.ref f_row_text) = true)
    (h_a_read_row : PySem.W.nsIn K mainGlobals "read_row" = some (some (.ref f_read_row)))
    (h_l_read_row : K.lookup f_read_row = some ⟨oc_read_row, od_read_row, .func (PySem.W.fnOf "read_row" "read_row" (defArgs s_read_row) (defBody s_read_row) (defScope s_read_row) .none (.ref D_read_row) dc_read_row pm_read_row an_read_row cd_read_row ct_read_row), sl_read_row⟩)
    (h_d_read_row_signs : PySem.W.nsIn K D_read_row "signs" = some (some (.int 2 u_read_row_signs)))
    (h_c_read_row : PySem.W.codeIn K cd_read_row "read_row" = true)
    (h_k_read_row : PySem.W.keepIn K (.ref f_read_row) = true)
    (h_a_l_bag : PySem.W.nsIn K mainGlobals "_law_bag" = some (some (.ref f_l_bag)))
    (h_l_l_bag : K.lookup f_l_bag = some ⟨oc_l_bag, od_l_bag, .func (PySem.W.fnOf "_law_bag" "_law_bag" (defArgs s_l_bag) (defBody s_l_bag) (defScope s_l_bag) .none kV_l_bag dc_l_bag pm_l_bag an_l_bag cd_l_bag ct_l_bag), sl_l_bag⟩)
    (h_c_l_bag : PySem.W.codeIn K cd_l_bag "_law_bag" = true)
    (h_k_l_bag : PySem.W.keepIn K (.ref f_l_bag) = true)
    (h_a_l_draw : PySem.W.nsIn K mainGlobals "_law_draw" = some (some (.ref f_l_draw)))
    (h_l_l_draw : K.lookup f_l_draw = some ⟨oc_l_draw, od_l_draw, .func (PySem.W.fnOf "_law_draw" "_law_draw" (defArgs s_l_draw) (defBody s_l_draw) (defScope s_l_draw) .none kV_l_draw dc_l_draw pm_l_draw an_l_draw cd_l_draw ct_l_draw), sl_l_draw⟩)
    (h_c_l_draw : PySem.W.codeIn K cd_l_draw "_law_draw" = true)
    (h_k_l_draw : PySem.W.keepIn K (.ref f_l_draw) = true)
    (h_a_l_of : PySem.W.nsIn K mainGlobals "_law_of" = some (some (.ref f_l_of)))
    (h_l_l_of : K.lookup f_l_of = some ⟨oc_l_of, od_l_of, .func (PySem.W.fnOf "_law_of" "_law_of" (defArgs s_l_of) (defBody s_l_of) (defScope s_l_of) .none kV_l_of dc_l_of pm_l_of an_l_of cd_l_of ct_l_of), sl_l_of⟩)
    (h_c_l_of : PySem.W.codeIn K cd_l_of "_law_of" = true)
    (h_k_l_of : PySem.W.keepIn K (.ref f_l_of) = true)
    (h_a_l_like : PySem.W.nsIn K mainGlobals "_law_like" = some (some (.ref f_l_like)))
    (h_l_l_like : K.lookup f_l_like = some ⟨oc_l_like, od_l_like, .func (PySem.W.fnOf "_law_like" "_law_like" (defArgs s_l_like) (defBody s_l_like) (defScope s_l_like) .none kV_l_like dc_l_like pm_l_like an_l_like cd_l_like ct_l_like), sl_l_like⟩)
    (h_c_l_like : PySem.W.codeIn K cd_l_like "_law_like" = true)
    (h_k_l_like : PySem.W.keepIn K (.ref f_l_like) = true)
    (h_a_l_any : PySem.W.nsIn K mainGlobals "_law_any" = some (some (.ref f_l_any)))
    (h_l_l_any : K.lookup f_l_any = some ⟨oc_l_any, od_l_any, .func (PySem.W.fnOf "_law_any" "_law_any" (defArgs s_l_any) (defBody s_l_any) (defScope s_l_any) .none kV_l_any dc_l_any pm_l_any an_l_any cd_l_any ct_l_any), sl_l_any⟩)
    (h_c_l_any : PySem.W.codeIn K cd_l_any "_law_any" = true)
    (h_k_l_any : PySem.W.keepIn K (.ref f_l_any) = true)
    (h_a_l_values : PySem.W.nsIn K mainGlobals "_law_values" = some (some (.ref f_l_values)))
    (h_l_l_values : K.lookup f_l_values = some ⟨oc_l_values, od_l_values, .func (PySem.W.fnOf "_law_values" "_law_values" (defArgs s_l_values) (defBody s_l_values) (defScope s_l_values) .none kV_l_values dc_l_values pm_l_values an_l_values cd_l_values ct_l_values), sl_l_values⟩)
    (h_c_l_values : PySem.W.codeIn K cd_l_values "_law_values" = true)
    (h_k_l_values : PySem.W.keepIn K (.ref f_l_values) = true)
    (h_a_l_row : PySem.W.nsIn K mainGlobals "_law_row" = some (some (.ref f_l_row)))
    (h_l_l_row : K.lookup f_l_row = some ⟨oc_l_row, od_l_row, .func (PySem.W.fnOf "_law_row" "_law_row" (defArgs s_l_row) (defBody s_l_row) (defScope s_l_row) .none kV_l_row dc_l_row pm_l_row an_l_row cd_l_row ct_l_row), sl_l_row⟩)
    (h_c_l_row : PySem.W.codeIn K cd_l_row "_law_row" = true)
    (h_k_l_row : PySem.W.keepIn K (.ref f_l_row) = true)
    (h_a_l_text : PySem.W.nsIn K mainGlobals "_law_text" = some (some (.ref f_l_text)))
    (h_l_l_text : K.lookup f_l_text = some ⟨oc_l_text, od_l_text, .func (PySem.W.fnOf "_law_text" "_law_text" (defArgs s_l_text) (defBody s_l_text) (defScope s_l_text) .none kV_l_text dc_l_text pm_l_text an_l_text cd_l_text ct_l_text), sl_l_text⟩)
    (h_c_l_text : PySem.W.codeIn K cd_l_text "_law_text" = true)
    (h_k_l_text : PySem.W.keepIn K (.ref f_l_text) = true)
    (h_a_l_read : PySem.W.nsIn K mainGlobals "_law_read" = some (some (.ref f_l_read)))
    (h_l_l_read : K.lookup f_l_read = some ⟨oc_l_read, od_l_read, .func (PySem.W.fnOf "_law_read" "_law_read" (defArgs s_l_read) (defBody s_l_read) (defScope s_l_read) .none kV_l_read dc_l_read pm_l_read an_l_read cd_l_read ct_l_read), sl_l_read⟩)
    (h_c_l_read : PySem.W.codeIn K cd_l_read "_law_read" = true)
    (h_k_l_read : PySem.W.keepIn K (.ref f_l_read) = true)
    (h_a_l_nearly_text : PySem.W.nsIn K mainGlobals "_law_nearly_text" = some (some (.ref f_l_nearly_text)))
    (h_l_l_nearly_text : K.lookup f_l_nearly_text = some ⟨oc_l_nearly_text, od_l_nearly_text, .func (PySem.W.fnOf "_law_nearly_text" "_law_nearly_text" (defArgs s_l_nearly_text) (defBody s_l_nearly_text) (defScope s_l_nearly_text) .none kV_l_nearly_text dc_l_nearly_text pm_l_nearly_text an_l_nearly_text cd_l_nearly_text ct_l_nearly_text), sl_l_nearly_text⟩)
    (h_c_l_nearly_text : PySem.W.codeIn K cd_l_nearly_text "_law_nearly_text" = true)
    (h_k_l_nearly_text : PySem.W.keepIn K (.ref f_l_nearly_text) = true)
    (h_a_law : PySem.W.nsIn K mainGlobals "law" = some (some (.ref f_law)))
    (h_l_law : K.lookup f_law = some ⟨oc_law, od_law, .func (PySem.W.fnOf "law" "law" (defArgs s_law) (defBody s_law) (defScope s_law) .none kV_law dc_law pm_law an_law cd_law ct_law), sl_law⟩)
    (h_c_law : PySem.W.codeIn K cd_law "law" = true)
    (h_k_law : PySem.W.keepIn K (.ref f_law) = true)
    (h_z_len : PySem.W.nsIn K mainGlobals "len" = some none)
    (h_z_isinstance : PySem.W.nsIn K mainGlobals "isinstance" = some none)
    (h_z_tuple : PySem.W.nsIn K mainGlobals "tuple" = some none)
    (h_z_str : PySem.W.nsIn K mainGlobals "str" = some none)
    (h_z_bool : PySem.W.nsIn K mainGlobals "bool" = some none)
    (h_z_all : PySem.W.nsIn K mainGlobals "all" = some none)
    (h_z_zip : PySem.W.nsIn K mainGlobals "zip" = some none)
    (h_z_range : PySem.W.nsIn K mainGlobals "range" = some none)
    (h_z_int : PySem.W.nsIn K mainGlobals "int" = some none)
    (h_z_list : PySem.W.nsIn K mainGlobals "list" = some none)
    (h_c_NO_INPUTS : PySem.W.nsIn K mainGlobals "NO_INPUTS" = some (some (.str "." t_NO_INPUTS)))
    (h_c_NEVER : PySem.W.nsIn K mainGlobals "NEVER" = some (some (.str "~" t_NEVER)))
    (h_c_ROW_LETTERS : PySem.W.nsIn K mainGlobals "ROW_LETTERS" = some (some (.str "~012" t_ROW_LETTERS))) :
    ∃ fd : FuncData, (∀ (s : Shared) (v : Value), BindsTo s fd ⟨[v], []⟩ [("_law_script", v)]) ∧ ∀ base : Heap, K.In base → base.Ns mainGlobals mg → FnOk l.prog w K mg base CX0 7 fa fd ["_law_script"] (sp_law K) := by
  have e := hfa.symm.trans (PySem.W.mg_of X G h_a_law)
  cases e
  have F_row_text := fun_mk (st := s_row_text) h_l_row_text h_c_row_text h_k_row_text
  have b_row_text := F_row_text.binds (ps := ["row"]) fun _ _ _ _ _ _ us hl => match us, hl with | [_], _ => rfl
  have D_read_row : DefD K mg "read_row" s_read_row [("signs", .int 2)] := by
    refine ⟨f_read_row, _, ⟨⟨_, _, _, _, _, _, _, _, _, _, rfl, h_l_read_row, h_c_read_row, .inl ⟨rfl, rfl⟩, .inr ⟨_, rfl, fun q hq => ?_⟩⟩, h_k_read_row⟩, PySem.W.mg_of X G h_a_read_row⟩
    simp only [List.mem_cons, List.not_mem_nil, or_false] at hq
    rcases hq with rfl
    · exact ⟨_, h_d_read_row_signs, _, rfl⟩
  have F_l_bag := fun_mk (st := s_l_bag) h_l_l_bag h_c_l_bag h_k_l_bag
  have b_l_bag := F_l_bag.binds (ps := ["_law_script"]) fun _ _ _ _ _ _ us hl => match us, hl with | [_], _ => rfl
  have F_l_draw := fun_mk (st := s_l_draw) h_l_l_draw h_c_l_draw h_k_l_draw
  have b_l_draw := F_l_draw.binds (ps := ["_law_bag_here", "_law_size"]) fun _ _ _ _ _ _ us hl => match us, hl with | [_, _], _ => rfl
  have F_l_of := fun_mk (st := s_l_of) h_l_l_of h_c_l_of h_k_l_of
  have b_l_of := F_l_of.binds (ps := ["_law_bag_here", "_law_things"]) fun _ _ _ _ _ _ us hl => match us, hl with | [_, _], _ => rfl
  have F_l_like := fun_mk (st := s_l_like) h_l_l_like h_c_l_like h_k_l_like
  have b_l_like := F_l_like.binds (ps := ["_law_found", "_law_due"]) fun _ _ _ _ _ _ us hl => match us, hl with | [_, _], _ => rfl
  have F_l_any := fun_mk (st := s_l_any) h_l_l_any h_c_l_any h_k_l_any
  have b_l_any := F_l_any.binds (ps := ["_law_bag_here", "_law_deep"]) fun _ _ _ _ _ _ us hl => match us, hl with | [_, _], _ => rfl
  have F_l_values := fun_mk (st := s_l_values) h_l_l_values h_c_l_values h_k_l_values
  have b_l_values := F_l_values.binds (ps := ["_law_base"]) fun _ _ _ _ _ _ us hl => match us, hl with | [_], _ => rfl
  have F_l_row := fun_mk (st := s_l_row) h_l_l_row h_c_l_row h_k_l_row
  have b_l_row := F_l_row.binds (ps := ["_law_bag_here", "_law_n", "_law_base"]) fun _ _ _ _ _ _ us hl => match us, hl with | [_, _, _], _ => rfl
  have F_l_text := fun_mk (st := s_l_text) h_l_l_text h_c_l_text h_k_l_text
  have b_l_text := F_l_text.binds (ps := ["_law_row_here"]) fun _ _ _ _ _ _ us hl => match us, hl with | [_], _ => rfl
  have F_l_read := fun_mk (st := s_l_read) h_l_l_read h_c_l_read h_k_l_read
  have b_l_read := F_l_read.binds (ps := ["_law_text_here", "_law_base"]) fun _ _ _ _ _ _ us hl => match us, hl with | [_, _], _ => rfl
  have F_l_nearly_text := fun_mk (st := s_l_nearly_text) h_l_l_nearly_text h_c_l_nearly_text h_k_l_nearly_text
  have b_l_nearly_text := F_l_nearly_text.binds (ps := ["_law_bag_here", "_law_row_here"]) fun _ _ _ _ _ _ us hl => match us, hl with | [_, _], _ => rfl
  have F_law := fun_mk (st := s_law) h_l_law h_c_law h_k_law
  have T : Txt K mg := {
    row_text := ⟨_, _, F_row_text, b_row_text, PySem.W.mg_of X G h_a_row_text⟩
    read_row := D_read_row
    l_bag := ⟨_, _, F_l_bag, b_l_bag, PySem.W.mg_of X G h_a_l_bag⟩
    l_draw := ⟨_, _, F_l_draw, b_l_draw, PySem.W.mg_of X G h_a_l_draw⟩
    l_of := ⟨_, _, F_l_of, b_l_of, PySem.W.mg_of X G h_a_l_of⟩
    l_like := ⟨_, _, F_l_like, b_l_like, PySem.W.mg_of X G h_a_l_like⟩
    l_any := ⟨_, _, F_l_any, b_l_any, PySem.W.mg_of X G h_a_l_any⟩
    l_values := ⟨_, _, F_l_values, b_l_values, PySem.W.mg_of X G h_a_l_values⟩
    l_row := ⟨_, _, F_l_row, b_l_row, PySem.W.mg_of X G h_a_l_row⟩
    l_text := ⟨_, _, F_l_text, b_l_text, PySem.W.mg_of X G h_a_l_text⟩
    l_read := ⟨_, _, F_l_read, b_l_read, PySem.W.mg_of X G h_a_l_read⟩
    l_nearly_text := ⟨_, _, F_l_nearly_text, b_l_nearly_text, PySem.W.mg_of X G h_a_l_nearly_text⟩
    z_len := PySem.W.mg_none_of X G h_z_len
    z_isinstance := PySem.W.mg_none_of X G h_z_isinstance
    z_tuple := PySem.W.mg_none_of X G h_z_tuple
    z_str := PySem.W.mg_none_of X G h_z_str
    z_bool := PySem.W.mg_none_of X G h_z_bool
    z_all := PySem.W.mg_none_of X G h_z_all
    z_zip := PySem.W.mg_none_of X G h_z_zip
    z_range := PySem.W.mg_none_of X G h_z_range
    z_int := PySem.W.mg_none_of X G h_z_int
    z_list := PySem.W.mg_none_of X G h_z_list
    u_NO_INPUTS := _
    c_NO_INPUTS := PySem.W.mg_of X G h_c_NO_INPUTS
    r_NO_INPUTS := ⟨_, rfl⟩
    u_NEVER := _
    c_NEVER := PySem.W.mg_of X G h_c_NEVER
    r_NEVER := ⟨_, rfl⟩
    u_ROW_LETTERS := _
    c_ROW_LETTERS := PySem.W.mg_of X G h_c_ROW_LETTERS
    r_ROW_LETTERS := ⟨_, rfl⟩ }
  exact ⟨PySem.W.fnOf "law" "law" (defArgs s_law) (defBody s_law) (defScope s_law) .none kV_law dc_law pm_law an_law cd_law ct_law, fun s v => .of_eq rfl, fun base _ _ => ok_law T F_law⟩
end Kx
open PySem PySem.W PyProof.Rows
set_option maxHeartbeats 0 in
theorem PySem.Challenge.cw_neverboxes_k03_texts_of_rows_holds : PySem.Challenge.rw_neverboxes_k03_texts_of_rows.Holds := by
  w_on; o_law; k_head; (case hw => w_witness2)
  k_fill
  refine L2.walk_of (l := PySem.Challenge.rw_neverboxes_k03_texts_of_rows) (n := 63) (k := 7) (x := "_law_script") (CX := fun _ => L2.CX0) (sp := fun w => Kx.sp_law _) rfl (by decide) rfl ⟨rfl, by decide, by decide⟩ (fun w h Y => PySem.W.kIn_of Y) ?F (fun _ _ a ns hl _ hS => ⟨a, ns, rfl, hS, hl, fun _ => rfl⟩) (fun _ _ _ _ _ h => h)
  case F =>
    intro w mg fa h KX G hmg
    refine' Kx.all_mk KX G hmg ?a_row_text ?l_row_text ?c_row_text ?k_row_text ?a_read_row ?l_read_row ?d_read_row_signs ?c_read_row ?k_read_row ?a_l_bag ?l_l_bag ?c_l_bag ?k_l_bag ?a_l_draw ?l_l_draw ?c_l_draw ?k_l_draw ?a_l_of ?l_l_of ?c_l_of ?k_l_of ?a_l_like ?l_l_like ?c_l_like ?k_l_like ?a_l_any ?l_l_any ?c_l_any ?k_l_any ?a_l_values ?l_l_values ?c_l_values ?k_l_values ?a_l_row ?l_l_row ?c_l_row ?k_l_row ?a_l_text ?l_l_text ?c_l_text ?k_l_text ?a_l_read ?l_l_read ?c_l_read ?k_l_read ?a_l_nearly_text ?l_l_nearly_text ?c_l_nearly_text ?k_l_nearly_text ?a_law ?l_law ?c_law ?k_law ?z_len ?z_isinstance ?z_tuple ?z_str ?z_bool ?z_all ?z_zip ?z_range ?z_int ?z_list ?c_NO_INPUTS ?c_NEVER ?c_ROW_LETTERS
    (case a_row_text => k_is); (case l_row_text => k_is); (case c_row_text => k_is); (case k_row_text => k_is); (case a_read_row => k_is); (case l_read_row => k_is)
    (case d_read_row_signs => k_is); (case c_read_row => k_is); (case k_read_row => k_is); (case a_l_bag => k_is); (case l_l_bag => k_is); (case c_l_bag => k_is)
    (case k_l_bag => k_is); (case a_l_draw => k_is); (case l_l_draw => k_is); (case c_l_draw => k_is); (case k_l_draw => k_is); (case a_l_of => k_is)
    (case l_l_of => k_is); (case c_l_of => k_is); (case k_l_of => k_is); (case a_l_like => k_is); (case l_l_like => k_is); (case c_l_like => k_is)
    (case k_l_like => k_is); (case a_l_any => k_is); (case l_l_any => k_is); (case c_l_any => k_is); (case k_l_any => k_is); (case a_l_values => k_is)
    (case l_l_values => k_is); (case c_l_values => k_is); (case k_l_values => k_is); (case a_l_row => k_is); (case l_l_row => k_is); (case c_l_row => k_is)
    (case k_l_row => k_is); (case a_l_text => k_is); (case l_l_text => k_is); (case c_l_text => k_is); (case k_l_text => k_is); (case a_l_read => k_is)
    (case l_l_read => k_is); (case c_l_read => k_is); (case k_l_read => k_is); (case a_l_nearly_text => k_is); (case l_l_nearly_text => k_is); (case c_l_nearly_text => k_is)
    (case k_l_nearly_text => k_is); (case a_law => k_is); (case l_law => k_is); (case c_law => k_is); (case k_law => k_is); (case z_len => k_is)
    (case z_isinstance => k_is); (case z_tuple => k_is); (case z_str => k_is); (case z_bool => k_is); (case z_all => k_is); (case z_zip => k_is)
    (case z_range => k_is); (case z_int => k_is); (case z_list => k_is); (case c_NO_INPUTS => k_is); (case c_NEVER => k_is); (case c_ROW_LETTERS => k_is)

