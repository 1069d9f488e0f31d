import PyProof.Rows.All
import Wide.All
import OpenK.AllK
import Wide.FinOn
import HandS.ForMost
import HandS.IsInst
import HandS.Codes
import HandS.Rev
import HandS.DeepEq
import HandS.More
import HandS.DictTup
import HandS.TupLen
import HandS.Conv
import HandS.Wide
import HandS.Walk
import HandS.Text
import PyProof.DictMoreH
import HandS.CallLocal
import HandS.RevRange
import HandS.Style
import HandS.SortInts
import HandS.DictComp
import PySem.Challenge.RW_onlybuilt_k13_above_and_cut
set_option Elab.async false
set_option linter.all false
set_option maxRecDepth 100000
/-! ### heaps -/
namespace Ob
open PySem PySem.Spec PyProof.Rows L2

theorem seqT {K : PySem.W.Frag} {H H' : Hp} {a : Addr} {xs : List V} (e : Same H H') (h : SqT K H a xs) : SqT K H' a xs := by
  rcases h with (h | ⟨o, h⟩) | h
  · exact .inl (.inl (e _ _ h))
  · exact .inl (.inr ⟨o, e _ _ h⟩)
  · exact .inr h
theorem same_new {H : Hp} {p : Addr} {o : HO} (h : H p = none) : Same H (upd H p o) := fun b x e => by
  rw [upd_ne (ne_of_none e h)]
  exact e
theorem same_put {H H' : Hp} {p : Addr} {o : HO} (s : Same H H') (h : H p = none) : Same H (upd H' p o) := fun b x e => by
  rw [upd_ne (ne_of_none e h)]
  exact s b x e
/-- the tuples stay -/
def TK (K : PySem.W.Frag) (H H' : Hp) : Prop := ∀ a xs, SqT K H a xs → SqT K H' a xs
theorem Same.tk {K : PySem.W.Frag} {H H' : Hp} (e : Same H H') : TK K H H' := fun _ _ h => seqT e h
theorem TK.refl {K : PySem.W.Frag} {H : Hp} : TK K H H := fun _ _ h => h
theorem TK.trans {K : PySem.W.Frag} {H H1 H2 : Hp} (a : TK K H H1) (b : TK K H1 H2) : TK K H H2 := fun x y h => b x y (a x y h)
theorem TK.lst {K : PySem.W.Frag} {H : Hp} {p : Addr} {xs : List V} {o : HO} (h : H p = some (.lst xs)) : TK K H (upd H p o) := fun a ys q => by
  rcases q with (q | ⟨ob, q⟩) | q
  · exact .inl (.inl (by rw [upd_ne (ne_of q h (by intro z; cases z))]; exact q))
  · exact .inl (.inr ⟨ob, by rw [upd_ne (ne_of q h (by intro z; cases z))]; exact q⟩)
  · exact .inr q
theorem TK.new {K : PySem.W.Frag} {H : Hp} {p : Addr} {o : HO} (h : H p = none) : TK K H (upd H p o) := Same.tk (same_new h)
theorem tyL {K : PySem.W.Frag} {H : Hp} {p : Addr} {xs : List V} (h : H p = some (.lst xs)) : tyV K "list" (.ref p) H := .inl ⟨rfl, _, .inl (.inl h)⟩
theorem at0 {x : V} {xs : List V} : atI (x :: xs) 0 = some x := atI_nat (j := 0) rfl
theorem at1 {x y : V} {xs : List V} : atI (x :: y :: xs) 1 = some y := atI_nat (j := 1) rfl
theorem at2 {x y z : V} {xs : List V} : atI (x :: y :: z :: xs) 2 = some z := atI_nat (j := 2) rfl
theorem last_rev {x : V} {xs : List V} : (x :: xs).reverse[(x :: xs).reverse.length - 1]? = some x := by
  rw [List.reverse_cons, List.length_append, List.length_singleton, Nat.add_sub_cancel, List.getElem?_append_right (Nat.le_refl _), Nat.sub_self]
  rfl
theorem drop_rev {x : V} {xs : List V} : (x :: xs).reverse.dropLast = xs.reverse := by
  rw [List.reverse_cons, List.dropLast_concat]
theorem add_rev {x : V} {xs : List V} : xs.reverse ++ [x] = (x :: xs).reverse := (List.reverse_cons).symm
theorem emp_rev {x : V} {xs : List V} : (!(x :: xs).reverse.isEmpty) = true := by
  rw [List.reverse_cons]
  cases xs.reverse <;> rfl
theorem small {n : Nat} (h : n ≤ 100000) : n < sizeLine := Nat.lt_of_le_of_lt h (by decide)
theorem small' {n : Nat} (h : n ≤ 100000) : n ≤ sizeLine := Nat.le_of_lt (small h)
theorem sz0 : ([] : List V).length ≤ sizeLine := by show 0 ≤ sizeLine; decide
theorem sz1 {a : V} : [a].length ≤ sizeLine := by show 1 ≤ sizeLine; decide
theorem sz2 {a b : V} : [a, b].length ≤ sizeLine := by show 2 ≤ sizeLine; decide
theorem sz3 {a b c : V} : [a, b, c].length ≤ sizeLine := by show 3 ≤ sizeLine; decide
theorem sz4 {a b c d : V} : [a, b, c, d].length ≤ sizeLine := by show 4 ≤ sizeLine; decide
theorem pair_app {α β : Type} {R : α → β → Prop} : ∀ {xs ys : List α} {us ws : List β}, Paired R xs us → Paired R ys ws → Paired R (xs ++ ys) (us ++ ws)
  | _, _, _, _, .nil, s => s
  | _, _, _, _, .cons r t, s => .cons r (pair_app t s)
theorem pair_len {α β : Type} {R : α → β → Prop} : ∀ {xs : List α} {us : List β}, Paired R xs us → xs.length = us.length
  | _, _, .nil => rfl
  | _, _, .cons _ t => by rw [List.length_cons, List.length_cons, pair_len t]
theorem pair_map {α β : Type} {R S : α → β → Prop} (h : ∀ a b, R a b → S a b) : ∀ {xs : List α} {us : List β}, Paired R xs us → Paired S xs us
  | _, _, .nil => .nil
  | _, _, .cons r t => .cons (h _ _ r) (pair_map h t)
theorem pair_get {α β : Type} {R : α → β → Prop} : ∀ {xs : List α} {us : List β} {i : Nat} {x : α}, Paired R xs us → xs[i]? = some x → ∃ u, us[i]? = some u ∧ R x u
  | _, _, _, _, .nil, e => by simp at e
  | _, _, 0, x, .cons r _, e => by
    have e' := Option.some.inj e
    subst e'
    exact ⟨_, rfl, r⟩
  | _, _, i + 1, x, .cons _ t, e => by
    obtain ⟨u, h1, h2⟩ := pair_get (i := i) (x := x) t (by simpa using e)
    exact ⟨u, by simpa using h1, h2⟩

/-! ### statements -/
inductive J where
  | and | or | thn
  deriving DecidableEq
def J.s : J → Str
  | .and => "and" | .or => "or" | .thn => "then"
inductive Sm where
  | lt (n : List Nat) | nv | bin (w : J) (a b : Sm)
  deriving DecidableEq
def Sm.size : Sm → Nat
  | .lt _ => 1
  | .nv => 1
  | .bin _ a b => a.size + b.size + 1
def Sm.joints : Sm → Nat
  | .lt _ => 0
  | .nv => 0
  | .bin _ a b => a.joints + b.joints + 1
theorem Sm.size_joints : ∀ s : Sm, s.size = 2 * s.joints + 1
  | .lt _ => rfl
  | .nv => rfl
  | .bin _ a b => by
    have h1 := a.size_joints
    have h2 := b.size_joints
    show a.size + b.size + 1 = 2 * (a.joints + b.joints + 1) + 1
    omega
theorem Sm.size_pos (s : Sm) : 0 < s.size := by rw [s.size_joints]; omega
def Sm.isBin : Sm → Bool
  | .bin _ _ _ => true
  | _ => false
def Sm.standing : Sm → List Sm
  | .lt n => [.lt n]
  | .nv => [.nv]
  | .bin w a b => .bin w a b :: (a.standing ++ b.standing)
theorem Sm.len_standing : ∀ s : Sm, s.standing.length = s.size
  | .lt _ => rfl
  | .nv => rfl
  | .bin w a b => by
    show (Sm.bin w a b :: (a.standing ++ b.standing)).length = a.size + b.size + 1
    rw [List.length_cons, List.length_append, a.len_standing, b.len_standing]
theorem Sm.bin_standing : ∀ s : Sm, (s.standing.filter Sm.isBin).length = s.joints
  | .lt _ => rfl
  | .nv => rfl
  | .bin w a b => by
    show ((Sm.bin w a b :: (a.standing ++ b.standing)).filter Sm.isBin).length = a.joints + b.joints + 1
    rw [List.filter_cons_of_pos rfl, List.length_cons, List.filter_append, List.length_append, a.bin_standing, b.bin_standing]
/-- all letters are such -/
def Sm.In (p : List Nat → Prop) : Sm → Prop
  | .lt n => p n
  | .nv => True
  | .bin _ a b => a.In p ∧ b.In p
theorem Sm.In.imp {p q : List Nat → Prop} (h : ∀ l, p l → q l) : ∀ {s : Sm}, s.In p → s.In q
  | .lt _, g => h _ g
  | .nv, _ => True.intro
  | .bin _ a b, g => ⟨Sm.In.imp h (s := a) g.1, Sm.In.imp h (s := b) g.2⟩
/-- knots, c: within the left part of a then -/
def Sm.kn (c : Bool) : Sm → Nat
  | .lt _ => 0
  | .nv => 0
  | .bin w a b => (if w = .or ∨ (w = .thn ∧ c = true) then 1 else 0) + a.kn (c || decide (w = .thn)) + b.kn c
/-- the value v is the statement s -/
inductive IsSm (K : PySem.W.Frag) (H : Hp) : V → Sm → Prop where
  | lt {a : Addr} {n : List Nat} : SqT K H a [.str "letter", .str (SX.S n)] → IsSm K H (.ref a) (.lt n)
  | nv {a : Addr} : SqT K H a [.str "never"] → IsSm K H (.ref a) .nv
  | bin {a : Addr} {w : J} {l r : V} {s t : Sm} : SqT K H a [.str w.s, l, r] → IsSm K H l s → IsSm K H r t → IsSm K H (.ref a) (.bin w s t)
theorem IsSm.tk {K : PySem.W.Frag} {H H' : Hp} (k : TK K H H') {v : V} {s : Sm} (h : IsSm K H v s) : IsSm K H' v s := by
  induction h with
  | lt h => exact .lt (k _ _ h)
  | nv h => exact .nv (k _ _ h)
  | bin h _ _ i1 i2 => exact .bin (k _ _ h) i1 i2
theorem IsSm.same {K : PySem.W.Frag} {H H' : Hp} (e : Same H H') {v : V} {s : Sm} (h : IsSm K H v s) : IsSm K H' v s := h.tk (Same.tk e)
/-- what is read of a statement's tuple -/
def Sm.len : Sm → Nat
  | .lt _ => 2
  | .nv => 1
  | .bin _ _ _ => 3
theorem IsSm.tup {K : PySem.W.Frag} {H : Hp} {v : V} {s : Sm} (h : IsSm K H v s) : ∃ a xs, v = .ref a ∧ SqT K H a xs ∧ xs.length = s.len := by
  cases h with
  | lt h => exact ⟨_, _, rfl, h, rfl⟩
  | nv h => exact ⟨_, _, rfl, h, rfl⟩
  | bin h _ _ => exact ⟨_, _, rfl, h, rfl⟩

/-! ### defs -/
section
variable (P : Program) (w : World) (K : PySem.W.Frag) (mg : Str → Option Value) (base : Heap)
/-- a def of the text -/
structure Df (x : Str) (st : Stmt) (ps : List Str) : Prop where
  ex : ∃ (f : Addr) (fd : FuncData), Fun K x x st f fd ∧ mg x = some (.ref f) ∧ Binds K fd ps []
/-- a def's promise -/
structure Cl (k : Nat) (x : Str) (sp : Sp) : Prop where
  ex : ∃ (f : Addr) (fd : FuncData) (ps : List Str), FnOk P w K mg base CX0 k f fd ps sp ∧ mg x = some (.ref f) ∧ PySem.W.keepIn K (.ref f) = true ∧ Binds K fd ps []
end
section
variable {P : Program} {w : World} {K : PySem.W.Frag} {mg : Str → Option Value} {base : Heap}
theorem Df.ok {x : Str} {st : Stmt} {ps N : List Str} {k : Nat} {sp : Sp} (D : Df K mg x st ps) (S : FnScope N ps (defScope st)) (len : ∀ vs H Q E, sp vs H Q E → vs.length = ps.length)
    (hbody : ∀ (f : Addr) (cdv : Value) (A : Around) (outer : List Env) (s : Shared) (H : Hp) (vs : List V) (Q : VK) (E : XK), Room k (A.deeper (envOfC x (defScope st) s.heap.objs.size f cdv)) → sp vs H Q E →
      ∃ t, PSs (cxOf CX0 P w K mg base N x (defScope st) f cdv A outer s H E).nox (defBody st) t ∧ t { nx := fun _ H' => Q .non H', rt := Q } (start N vs) H) : Cl P w K mg base (k + 1) x sp := by
  obtain ⟨f, fd, F, m, b⟩ := D.ex
  exact ⟨f, fd, ps, F.ok S len (hbody f), m, F.kp, b⟩
theorem Df.none {x : Str} {st : Stmt} {ps : List Str} {sp : Sp} (D : Df K mg x st ps) (no : ∀ vs H Q E, ¬ sp vs H Q E) : Cl P w K mg base 0 x sp := by
  obtain ⟨f, fd, F, m, b⟩ := D.ex
  exact ⟨f, fd, ps, ⟨fun vs H Q E h => absurd h (no vs H Q E), fun A outer s H args us vs Q E _ _ _ _ h => absurd h (no vs H Q E)⟩, m, F.kp, b⟩
theorem Cl.mono {j k : Nat} {x : Str} {sp : Sp} (c : Cl P w K mg base j x sp) (h : j ≤ k) : Cl P w K mg base k x sp := by
  obtain ⟨f, fd, ps, F, m, kp, b⟩ := c.ex
  exact ⟨f, fd, ps, F.mono h, m, kp, b⟩
end
section
variable {X : Cx}
theorem pe_k {k j : Nat} {x : Str} {sp : Sp} {p pos : Pos} {e : Expr} {es : List Expr} {t : TA} (c : Cl X.prog X.w X.K X.mg X.base k x sp) (hr : Room j X.A) (hk : k ≤ j) (hg : Gl X x) (ha : PA X (e :: es) t)
    (hdb : (x == ("__debug__" : Str)) = false := by decide) (he : starEach (e :: es) X.env = (false, eval e X.env) :: starEach es X.env := by rfl) (hpl : (backTo pos (starEach es X.env)).any (·.1) = false := by rfl) : PE X (.Call (.Name x p) (e :: es) [] pos) (tCall sp [] E0 t) := by
  obtain ⟨f, fd, ps, F, m, kp, b⟩ := c.ex
  exact pe_call F (hr.mono hk) hg m kp b .nil pass0 ha hdb he hpl
end

def rLenK (K : PySem.W.Frag) : List V → Hp → VK → Prop := fun xs H Q => ∃ p ys, xs = [.ref p] ∧ (SqL K H p ys ∨ SqT K H p ys) ∧ Q (.int ys.length) H
def rListK (K : PySem.W.Frag) : List V → Hp → VK → Prop := fun xs H Q => ∃ p ys, xs = [.ref p] ∧ (SqL K H p ys ∨ SqT K H p ys) ∧ ∀ l, H l = none → Q (.ref l) (upd H l (.lst ys))
def tTru (K : PySem.W.Frag) (ta : TE) : TT := fun σ H Q => ta σ H fun x H' => ∃ k, TruV K x H' k ∧ Q k H'
theorem pt_truthK {X : Cx} {a : Expr} {ta : TE} {K : PySem.W.Frag} (ha : PE X a ta) (he : ∀ whole, isTrue a X.env whole = (do let v ← whole; standAt a.pos; holding [v] (truthy v))) (hK : X.K = K := by rfl) :
    PT X a (tTru K ta) := by
  subst hK
  exact pt_truth ha he
theorem pi_listK {X : Cx} {K : PySem.W.Frag} {tg e : Expr} {te : TE} (he : PE X e te) (hK : X.K = K := by rfl) : PI X tg e (iList K te) := by
  subst hK
  exact pi_list he
theorem pi_tupK {X : Cx} {K : PySem.W.Frag} {tg e : Expr} {te : TE} (he : PE X e te) (hK : X.K = K := by rfl) : PI X tg e (iTup K te) := by
  subst hK
  exact pi_tup he
/-! ### a cut behind a statement -/
def tCutO (t u : TS) : TS := fun D σ H => ∃ Mid : L2.St → Hp → Prop, t { D with nx := Mid } σ H ∧ ∀ σ' H', Mid σ' H' → u D σ' H'
theorem pss_cutO {X : Cx} {st : Stmt} {rest : List Stmt} {t u : TS} (h1 : PS X st t) (h2 : PSs X rest u) : PSs X (st :: rest) (tCutO t u) := by
  refine ⟨fun pins s σ H D I h => ?_⟩
  obtain ⟨Mid, q1, q2⟩ := h
  refine wpAny_execs_cons (thn (h1.run pins s σ H { D with nx := Mid } I q1) fun f s1 q => ?_)
  cases f with
  | next =>
    obtain ⟨σ', H', I', q⟩ := q
    exact h2.run pins s1 σ' H' D I' (q2 σ' H' q)
  | ret v => exact q
  | brk => exact q
  | cont => exact q

/-! ### texts, cuts, names -/
abbrev S (l : List Nat) : Str := SX.S l
theorem S_tl (x : Str) : S x.cps.toList = x := SX.S_tl x
theorem S_cps (l : List Nat) : (S l).cps.toList = l := rfl
theorem S_inj {a b : List Nat} (h : S a = S b) : a = b := SX.S_inj h
theorem S_len (a : List Nat) : (S a).length = a.length := SX.S_len a
theorem S_cat (a b : List Nat) : S a ++ S b = S (a ++ b) := SX.S_cat a b
theorem joinL_signs : ∀ cs : List Nat, TL.joinL [] (cs.map fun c => [c]) = cs
  | [] => rfl
  | [_] => rfl
  | c :: d :: r => by
    show [c] ++ ([] ++ TL.joinL [] ((d :: r).map fun c => [c])) = c :: d :: r
    rw [joinL_signs (d :: r)]
    rfl
theorem join_signs (cs : List Nat) : Txt.join ("" : Str) (cs.map fun c => S [c]) = S cs := by
  have h := SX.join_S [] (cs.map fun c => [c])
  rw [List.map_map, joinL_signs] at h
  exact h
theorem sum_ones (cs : List Nat) : ((cs.map fun c => S [c]).map (·.length)).sum = cs.length := by
  rw [List.map_map]
  induction cs with
  | nil => rfl
  | cons c r ih =>
    rw [List.map_cons, List.sum_cons, ih, List.length_cons, Nat.add_comm]
    rfl
theorem cut_nat (xs : List V) (a b : Nat) : cutV xs (some (a : Int)) (some (b : Int)) = (xs.drop a).take (b - a) := by
  unfold cutV
  rw [HT.sIx_nat, HT.sIx_nat]
  by_cases h : a ≤ xs.length
  · rw [Nat.min_eq_left h]
    by_cases g : b ≤ xs.length
    · rw [Nat.min_eq_left g]
    · rw [Nat.min_eq_right (by omega), List.take_of_length_le (by rw [List.length_drop]; omega), List.take_of_length_le (by rw [List.length_drop]; omega)]
  · rw [Nat.min_eq_right (show xs.length ≤ a by omega), List.drop_of_length_le (Nat.le_refl _), List.drop_of_length_le (show xs.length ≤ a by omega), List.take_nil, List.take_nil]
theorem cut_from (xs : List V) (a : Nat) : cutV xs (some (a : Int)) none = xs.drop a := by
  unfold cutV
  rw [HT.sIx_nat, HT.sIx_none]
  by_cases h : a ≤ xs.length
  · rw [Nat.min_eq_left h, List.take_of_length_le (by rw [List.length_drop]; exact Nat.le_refl _)]
  · rw [Nat.min_eq_right (show xs.length ≤ a by omega), List.drop_of_length_le (Nat.le_refl _), List.drop_of_length_le (show xs.length ≤ a by omega), List.take_nil]
theorem cut_to (xs : List V) (b : Nat) : cutV xs none (some (b : Int)) = xs.take b := by
  unfold cutV
  rw [HT.sIx_nat, HT.sIx_none, List.drop_zero, Nat.sub_zero]
  by_cases g : b ≤ xs.length
  · rw [Nat.min_eq_left g]
  · rw [Nat.min_eq_right (by omega), List.take_of_length_le (Nat.le_refl _), List.take_of_length_le (by omega)]
/-- a name of a letter, as its signs -/
structure Nm (l : List Nat) : Prop where
  lo : 1 ≤ l.length
  hi : l.length ≤ 8
  abc : ∀ c ∈ l, 97 ≤ c ∧ c ≤ 122
  free : S l ≠ "and" ∧ S l ≠ "or" ∧ S l ≠ "then" ∧ S l ≠ "never"
theorem abc_at : ∀ j : Nat, j < 26 → ((("abcdefghijklmnopqrstuvwxyz" : Str)).cps.toList)[j]? = some (97 + j) := by
  decide +kernel

theorem inV_str (x : Str) (ys : List Str) : inV (.str x) (ys.map V.str) = ys.any (· == x) := by
  unfold inV
  rw [List.any_map]
  rfl
theorem kept_cases {l : List Nat} (h : inV (.str (S l)) [.str "and", .str "or", .str "then", .str "never"] = true) : l = [97, 110, 100] ∨ l = [111, 114] ∨ l = [116, 104, 101, 110] ∨ l = [110, 101, 118, 101, 114] := by
  have h' : (["and", "or", "then", "never"] : List Str).any (· == S l) = true := by rw [← inV_str]; exact h
  rw [List.any_eq_true] at h'
  obtain ⟨x, hx, e⟩ := h'
  have e' : x = S l := eq_of_beq e
  have e2 : x.cps.toList = l := by rw [e']
  rw [← e2]
  rcases List.mem_cons.mp hx with rfl | hx
  · exact .inl (by decide +kernel)
  rcases List.mem_cons.mp hx with rfl | hx
  · exact .inr (.inl (by decide +kernel))
  rcases List.mem_cons.mp hx with rfl | hx
  · exact .inr (.inr (.inl (by decide +kernel)))
  rcases List.mem_cons.mp hx with rfl | hx
  · exact .inr (.inr (.inr (by decide +kernel)))
  · cases hx
theorem kept_not {l : List Nat} (h : ¬ inV (.str (S l)) [.str "and", .str "or", .str "then", .str "never"] = true) : S l ≠ "and" ∧ S l ≠ "or" ∧ S l ≠ "then" ∧ S l ≠ "never" := by
  have h' : ¬ (["and", "or", "then", "never"] : List Str).any (· == S l) = true := by rw [← inV_str]; exact h
  rw [List.any_eq_true] at h'
  have n : ∀ x ∈ (["and", "or", "then", "never"] : List Str), S l ≠ x := fun x hx e => h' ⟨x, hx, by rw [e]; exact beq_self_eq_true x⟩
  exact ⟨n _ (by simp), n _ (by simp), n _ (by simp), n _ (by simp)⟩
theorem nm_no {l : List Nat} (h1 : 1 ≤ l.length) (h2 : l.length ≤ 8) (h3 : ∀ c ∈ l, 97 ≤ c ∧ c ≤ 122) (h : ¬ inV (.str (S l)) [.str "and", .str "or", .str "then", .str "never"] = true) : Nm l := ⟨h1, h2, h3, kept_not h⟩
theorem nm_x {l : List Nat} (h : inV (.str (S l)) [.str "and", .str "or", .str "then", .str "never"] = true) : Nm (l ++ [120]) := by
  rcases kept_cases h with rfl | rfl | rfl | rfl <;> exact ⟨by decide, by decide, by decide, by decide +kernel⟩

/-! ### tests and values that change nothing -/
section
variable {σ : L2.St} {H : Hp} {ta tb : TE} {t u : TT} {x y z v : V} {a b : Bool} {K : PySem.W.Frag}
def An (t : TT) (σ : L2.St) (H : Hp) (b : Bool) : Prop := ∀ Q : Bool → Hp → Prop, Q b H → t σ H Q
def Vl (te : TE) (σ : L2.St) (H : Hp) (v : V) : Prop := ∀ Q : VK, Q v H → te σ H Q
theorem vl_var {i : Nat} (h : σ[i]? = some (some v)) : Vl (tVar i) σ H v := fun _ q => ⟨v, h, q⟩
theorem vl_c : Vl (tC v) σ H v := fun _ q => q
theorem an_or (h1 : An t σ H a) (h2 : An u σ H b) : An (tOr t u) σ H (a || b) := fun Q q => h1 _ (by
  cases a with
  | true => exact iteT q
  | false => exact iteF (h2 Q q))
theorem an_and (h1 : An t σ H a) (h2 : An u σ H b) : An (tAnd t u) σ H (a && b) := fun Q q => h1 _ (by
  cases a with
  | true => exact iteT (h2 Q q)
  | false => exact iteF q)
theorem an_not (h : An t σ H a) : An (tNot t) σ H (!a) := fun Q q => h _ q
theorem an_val (h : Vl ta σ H (.bl b)) : An (tB ta) σ H b := fun Q q => h _ ⟨b, rfl, q⟩
theorem an_test (h : Vl ta σ H (.bl b)) : An (tTest ta) σ H b := fun Q q => h _ ⟨b, rfl, q⟩
theorem vl_eq (h1 : Vl ta σ H x) (h2 : Vl tb σ H y) (hs : scal x y = true) : Vl (tOp rEq ta tb) σ H (.bl (decide (x = y))) := fun Q q => h1 _ (h2 _ ⟨hs, q⟩)
theorem vl_ne (h1 : Vl ta σ H x) (h2 : Vl tb σ H y) (hs : scal x y = true) : Vl (tOp rNe ta tb) σ H (.bl (!decide (x = y))) := fun Q q => h1 _ (h2 _ ⟨hs, q⟩)
theorem vl_I0 {g : Int → Int → V} {i j : Int} (h1 : Vl ta σ H (.int i)) (h2 : Vl tb σ H (.int j)) : Vl (tOp (rI0 g) ta tb) σ H (g i j) := fun Q q => h1 _ (h2 _ ⟨i, j, rfl, rfl, q⟩)
theorem vl_I {C : Int → Int → Prop} {g : Int → Int → V} {i j : Int} (h1 : Vl ta σ H (.int i)) (h2 : Vl tb σ H (.int j)) (hc : C i j) : Vl (tOp (rI C g) ta tb) σ H (g i j) := fun Q q => h1 _ (h2 _ ⟨i, j, rfl, rfl, hc, q⟩)
theorem vl_orV (h1 : Vl ta σ H (.bl a)) (h2 : Vl tb σ H (.bl b)) : Vl (tOrV ta tb) σ H (.bl (a || b)) := fun Q q => h1 _ ⟨a, rfl, (by
  cases a with
  | true => exact iteT q
  | false => exact iteF (h2 Q q))⟩
theorem vl_andV (h1 : Vl ta σ H (.bl a)) (h2 : Vl tb σ H (.bl b)) : Vl (tAndV ta tb) σ H (.bl (a && b)) := fun Q q => h1 _ ⟨a, rfl, (by
  cases a with
  | true => exact iteT (h2 Q q)
  | false => exact iteF q)⟩
theorem vl_notV (h1 : Vl ta σ H (.bl a)) : Vl (tNotV ta) σ H (.bl (!a)) := fun Q q => h1 _ ⟨a, rfl, q⟩
theorem vl_ixT {p : Addr} {xs : List V} {i : Int} (h1 : Vl ta σ H (.ref p)) (h2 : Vl tb σ H (.int i)) (hs : SqT K H p xs) (ha : atI xs i = some v) : Vl (tOp (rIxT K) ta tb) σ H v := fun Q q => h1 _ (h2 _ ⟨p, xs, i, v, rfl, rfl, hs, ha, q⟩)
theorem vl_ixL {p : Addr} {xs : List V} {i : Int} (h1 : Vl ta σ H (.ref p)) (h2 : Vl tb σ H (.int i)) (hs : SqL K H p xs) (ha : atI xs i = some v) : Vl (tOp (rIxL K) ta tb) σ H v := fun Q q => h1 _ (h2 _ ⟨p, xs, i, v, rfl, rfl, hs, ha, q⟩)
theorem vl_lenT {p : Addr} {xs : List V} (h1 : Vl ta σ H (.ref p)) (hs : SqT K H p xs) : Vl (tCB (rLenK K) (tCons ta tNil)) σ H (.int xs.length) := fun Q q => h1 _ ⟨p, xs, rfl, .inr hs, q⟩
theorem vl_lenL {p : Addr} {xs : List V} (h1 : Vl ta σ H (.ref p)) (hs : SqL K H p xs) : Vl (tCB (rLenK K) (tCons ta tNil)) σ H (.int xs.length) := fun Q q => h1 _ ⟨p, xs, rfl, .inl hs, q⟩
end
theorem j_eq (w u : J) : decide (V.str w.s = V.str u.s) = decide (w = u) := by
  cases w <;> cases u <;> decide

/-! ### statements as data -/
def rEqE (K : PySem.W.Frag) : R2 := fun x y H Q => ∃ d e, Dp K H x d ∧ Dp K H y e ∧ d.canLay0 = true ∧ e.canLay0 = true ∧ min d.depth e.depth ≤ 64 ∧ Q (.bl (PyData.eqv d e)) H
def rNeE (K : PySem.W.Frag) : R2 := fun x y H Q => ∃ d e, Dp K H x d ∧ Dp K H y e ∧ d.canLay0 = true ∧ e.canLay0 = true ∧ min d.depth e.depth ≤ 64 ∧ Q (.bl (!PyData.eqv d e)) H
theorem op_eqE {X : Cx} (hu : X.A.units + 64 < cLine) : OpR X (compareOp .Eq) (rEqE X.K) := by
  intro pins s σ H x y v u Q I rx ry h
  obtain ⟨d, e, hd, he, sd, se, hm, q⟩ := h
  obtain ⟨as, r1⟩ := Dp.reads I d x v hd rx
  obtain ⟨bs, r2⟩ := Dp.reads I e y u he ry
  exact SeqAt.compareEq_reads r1 r2 sd se (by omega) ⟨.bl _, H, I, rfl, q⟩
theorem op_neE {X : Cx} (hu : X.A.units + 64 < cLine) : OpR X (compareOp .NotEq) (rNeE X.K) := by
  intro pins s σ H x y v u Q I rx ry h
  obtain ⟨d, e, hd, he, sd, se, hm, q⟩ := h
  obtain ⟨as, r1⟩ := Dp.reads I d x v hd rx
  obtain ⟨bs, r2⟩ := Dp.reads I e y u he ry
  exact SeqAt.compareNe_reads r1 r2 sd se (by omega) ⟨.bl _, H, I, rfl, q⟩
def Ch (l : List Nat) : Prop := ∀ c ∈ l, c < 1114112
theorem Nm.ch {l : List Nat} (h : Nm l) : Ch l := fun c hc => by
  have := h.abc c hc
  omega
theorem Ch.ok {l : List Nat} (h : Ch l) : PyData.strOk (S l) = true := by
  unfold PyData.strOk
  rw [Array.all_eq_true']
  intro c hc
  have hc' : c ∈ l := by
    have : c ∈ (S l).cps.toList := Array.mem_toList_iff.mpr hc
    exact this
  exact decide_eq_true (h c hc')
def Sm.data : Sm → PyData
  | .lt n => .tuple [.str "letter", .str (S n)]
  | .nv => .tuple [.str "never"]
  | .bin w a b => .tuple [.str w.s, a.data, b.data]
theorem IsSm.dp {K : PySem.W.Frag} {H : Hp} {v : V} {s : Sm} (h : IsSm K H v s) : Dp K H v s.data := by
  induction h with
  | lt h => exact .tup h (.cons (.str _) (.cons (.str _) .nil))
  | nv h => exact .tup h (.cons (.str _) .nil)
  | bin h _ _ i1 i2 => exact .tup h (.cons (.str _) (.cons i1 (.cons i2 .nil)))
theorem J.ok (w : J) : PyData.strOk w.s = true := by cases w <;> decide +kernel
theorem Sm.lay : ∀ {s : Sm}, s.In Ch → s.data.canLay0 = true
  | .lt n, h => by
    have h' : Ch n := h
    show (PyData.tuple [.str "letter", .str (S n)]).canLay0 = true
    simp only [PyData.canLay0, PyData.canLayAll0, h'.ok, Bool.and_true]
    decide +kernel
  | .nv, _ => by decide +kernel
  | .bin w a b, h => by
    show (PyData.tuple [.str w.s, a.data, b.data]).canLay0 = true
    simp only [PyData.canLay0, PyData.canLayAll0, Sm.lay (s := a) h.1, Sm.lay (s := b) h.2, w.ok, Bool.and_true]
theorem Sm.depth_le : ∀ s : Sm, s.data.depth ≤ s.joints + 1
  | .lt n => by
    show (PyData.tuple [.str "letter", .str (S n)]).depth ≤ 0 + 1
    simp [PyData.depth, PyData.depthAll]
  | .nv => by decide +kernel
  | .bin w a b => by
    have h1 := a.depth_le
    have h2 := b.depth_le
    show (PyData.tuple [.str w.s, a.data, b.data]).depth ≤ a.joints + b.joints + 1 + 1
    simp only [PyData.depth, PyData.depthAll]
    omega
theorem str_beq (a b : List Nat) : (S a == S b) = decide (a = b) := SX.S_beq_eq
theorem eqv_s (a b : Str) : PyData.eqv (.str a) (.str b) = (a == b) := by rw [PyData.eqv]
theorem eqv_t1 (a b : PyData) : PyData.eqv (.tuple [a]) (.tuple [b]) = PyData.eqv a b := by
  rw [PyData.eqv, PyData.eqvAll, PyData.eqvAll, Bool.and_true]
theorem eqv_t2 (a b c d : PyData) : PyData.eqv (.tuple [a, b]) (.tuple [c, d]) = (PyData.eqv a c && PyData.eqv b d) := by
  rw [PyData.eqv, PyData.eqvAll, PyData.eqvAll, PyData.eqvAll, Bool.and_true]
theorem eqv_t3 (a b c d e f : PyData) : PyData.eqv (.tuple [a, b, c]) (.tuple [d, e, f]) = (PyData.eqv a d && (PyData.eqv b e && PyData.eqv c f)) := by
  rw [PyData.eqv, PyData.eqvAll, PyData.eqvAll, PyData.eqvAll, PyData.eqvAll, Bool.and_true]
theorem eqv_tn {xs ys : List PyData} (h : xs.length ≠ ys.length) : PyData.eqv (.tuple xs) (.tuple ys) = false := by
  rw [PyData.eqv]
  exact SeqAt.eqvAll_other_length h
theorem eqv_ln {xs ys : List PyData} (h : xs.length ≠ ys.length) : PyData.eqv (.list xs) (.list ys) = false := by
  rw [PyData.eqv]
  exact SeqAt.eqvAll_other_length h
theorem eqv_nil : PyData.eqv (.list []) (.list []) = true := by
  rw [PyData.eqv, PyData.eqvAll]
theorem Sm.eqv (s : Sm) : ∀ t : Sm, PyData.eqv s.data t.data = decide (s = t) := by
  induction s with
  | lt n =>
    intro t
    cases t with
    | lt m =>
      show PyData.eqv (.tuple [.str "letter", .str (S n)]) (.tuple [.str "letter", .str (S m)]) = _
      rw [eqv_t2, eqv_s, eqv_s, beq_self_eq_true, Bool.true_and, str_beq]
      rw [decide_eq_decide]
      exact ⟨fun h => by rw [h], fun h => by injection h⟩
    | nv =>
      show PyData.eqv (.tuple [.str "letter", .str (S n)]) (.tuple [.str "never"]) = _
      rw [decide_eq_false (fun h => nomatch h)]
      exact eqv_tn (by simp)
    | bin w a b =>
      show PyData.eqv (.tuple [.str "letter", .str (S n)]) (.tuple [.str w.s, a.data, b.data]) = _
      rw [decide_eq_false (fun h => nomatch h)]
      exact eqv_tn (by simp)
  | nv =>
    intro t
    cases t with
    | lt n =>
      show PyData.eqv (.tuple [.str "never"]) (.tuple [.str "letter", .str (S n)]) = _
      rw [decide_eq_false (fun h => nomatch h)]
      exact eqv_tn (by simp)
    | nv =>
      rw [decide_eq_true rfl]
      show PyData.eqv (.tuple [.str "never"]) (.tuple [.str "never"]) = _
      rw [eqv_t1, eqv_s, beq_self_eq_true]
    | bin w a b =>
      show PyData.eqv (.tuple [.str "never"]) (.tuple [.str w.s, a.data, b.data]) = _
      rw [decide_eq_false (fun h => nomatch h)]
      exact eqv_tn (by simp)
  | bin w a b iha ihb =>
    intro t
    cases t with
    | lt n =>
      show PyData.eqv (.tuple [.str w.s, a.data, b.data]) (.tuple [.str "letter", .str (S n)]) = _
      rw [decide_eq_false (fun h => nomatch h)]
      exact eqv_tn (by simp)
    | nv =>
      show PyData.eqv (.tuple [.str w.s, a.data, b.data]) (.tuple [.str "never"]) = _
      rw [decide_eq_false (fun h => nomatch h)]
      exact eqv_tn (by simp)
    | bin u c d =>
      show PyData.eqv (.tuple [.str w.s, a.data, b.data]) (.tuple [.str u.s, c.data, d.data]) = _
      rw [eqv_t3, eqv_s, iha c, ihb d]
      have hw : (w.s == u.s) = decide (w = u) := by cases w <;> cases u <;> decide +kernel
      rw [hw]
      by_cases e : w = u ∧ a = c ∧ b = d
      · obtain ⟨rfl, rfl, rfl⟩ := e
        simp
      · rw [decide_eq_false (show ¬ (Sm.bin w a b = Sm.bin u c d) from fun h => e (by injection h with h1 h2 h3; exact ⟨h1, h2, h3⟩))]
        by_cases h1 : w = u
        · by_cases h2 : a = c
          · by_cases h3 : b = d
            · exact absurd ⟨h1, h2, h3⟩ e
            · simp [h3]
          · simp [h2]
        · simp [h1]

mutual
theorem Dp.sm {K : PySem.W.Frag} {H H' : Hp} (e : Same H H') : ∀ {v : V} {d : PyData}, Dp K H v d → Dp K H' v d
  | _, _, .non => .non
  | _, _, .bl b => .bl b
  | _, _, .int i => .int i
  | _, _, .str x => .str x
  | _, _, .lst h a => .lst (e.seq h) (DpAll.sm e a)
  | _, _, .tup h a => .tup (seqT e h) (DpAll.sm e a)
theorem DpAll.sm {K : PySem.W.Frag} {H H' : Hp} (e : Same H H') : ∀ {vs : List V} {ds : List PyData}, DpAll K H vs ds → DpAll K H' vs ds
  | _, _, .nil => .nil
  | _, _, .cons h a => .cons (Dp.sm e h) (DpAll.sm e a)
end
theorem dpAll_of {α : Type} {K : PySem.W.Frag} {H : Hp} {R : V → α → Prop} {f : α → PyData} (h : ∀ v p, R v p → Dp K H v (f p)) : ∀ {ws : List V} {st : List α}, Paired R ws st → DpAll K H ws (st.map f)
  | _, _, .nil => .nil
  | _, _, .cons r t => .cons (h _ _ r) (dpAll_of h t)
theorem dpAll_app {K : PySem.W.Frag} {H : Hp} : ∀ {xs ys : List V} {ds es : List PyData}, DpAll K H xs ds → DpAll K H ys es → DpAll K H (xs ++ ys) (ds ++ es)
  | _, _, _, _, .nil, s => s
  | _, _, _, _, .cons r t, s => .cons r (dpAll_app t s)
theorem dpAll_rev {K : PySem.W.Frag} {H : Hp} : ∀ {xs : List V} {ds : List PyData}, DpAll K H xs ds → DpAll K H xs.reverse ds.reverse
  | _, _, .nil => .nil
  | _, _, .cons r t => by
    rw [List.reverse_cons, List.reverse_cons]
    exact dpAll_app (dpAll_rev t) (.cons r .nil)
theorem lay_all : ∀ {ds : List PyData}, (∀ d ∈ ds, d.canLay0 = true) → PyData.canLayAll0 ds = true
  | [], _ => by rw [PyData.canLayAll0]
  | d :: r, h => by
    rw [PyData.canLayAll0, h d (List.mem_cons_self ..), lay_all (ds := r) fun x hx => h x (List.mem_cons_of_mem _ hx)]
    rfl
theorem lay_lst {ds : List PyData} (h : ∀ d ∈ ds, d.canLay0 = true) : (PyData.list ds).canLay0 = true := by
  rw [PyData.canLay0]
  exact lay_all h
theorem lay_tup {ds : List PyData} (h : ∀ d ∈ ds, d.canLay0 = true) : (PyData.tuple ds).canLay0 = true := by
  rw [PyData.canLay0]
  exact lay_all h
theorem dpAll_nil {K : PySem.W.Frag} {H : Hp} {xs : List V} {ds : List PyData} (h : DpAll K H xs ds) : PyData.eqv (.list ds) (.list []) = xs.isEmpty := by
  cases h with
  | nil => exact eqv_nil
  | cons _ _ => exact eqv_ln (by simp)
theorem depth_nil (d : PyData) : min d.depth (PyData.list []).depth ≤ 64 := Nat.le_trans (Nat.min_le_right _ _) (by decide +kernel)
/-- xs != [] -/
theorem ne_nil {K : PySem.W.Frag} {σ : L2.St} {H : Hp} {ta : TE} {k : Addr} {xs : List V} {ds : List PyData} {Q : VK} (h1 : Vl ta σ H (.ref k)) (hs : SqL K H k xs) (hd : DpAll K H xs ds) (hl : ∀ d ∈ ds, d.canLay0 = true)
    (q : ∀ p, H p = none → Q (.bl (!xs.isEmpty)) (upd H p (.lst []))) : tOp (rNeE K) ta (tLst tNil) σ H Q := h1 _ ⟨sz0, fun p np => ⟨.list ds, .list [], .lst ((same_new np).seq hs) (DpAll.sm (same_new np) hd), .lst (.inl (.inl upd_same)) .nil, lay_lst hl, by decide +kernel, depth_nil _, by
  rw [dpAll_nil hd]
  exact q p np⟩⟩
/-- xs == [] -/
theorem eq_nil {K : PySem.W.Frag} {σ : L2.St} {H : Hp} {ta : TE} {k : Addr} {xs : List V} {ds : List PyData} {Q : VK} (h1 : Vl ta σ H (.ref k)) (hs : SqL K H k xs) (hd : DpAll K H xs ds) (hl : ∀ d ∈ ds, d.canLay0 = true)
    (q : ∀ p, H p = none → Q (.bl xs.isEmpty) (upd H p (.lst []))) : tOp (rEqE K) ta (tLst tNil) σ H Q := h1 _ ⟨sz0, fun p np => ⟨.list ds, .list [], .lst ((same_new np).seq hs) (DpAll.sm (same_new np) hd), .lst (.inl (.inl upd_same)) .nil, lay_lst hl, by decide +kernel, depth_nil _, by
  rw [dpAll_nil hd]
  exact q p np⟩⟩
theorem dpAll_ints {K : PySem.W.Frag} {H : Hp} : ∀ ns : List Int, DpAll K H (ns.map V.int) (ns.map PyData.int)
  | [] => .nil
  | n :: r => .cons (.int n) (dpAll_ints r)
theorem lay_ints (ns : List Int) : ∀ d ∈ ns.map PyData.int, d.canLay0 = true := fun d hd => by
  obtain ⟨n, _, rfl⟩ := List.mem_map.mp hd
  rfl
/-- a statement and a truth, as a tuple -/
def WP (K : PySem.W.Frag) (H H3 : Hp) (v : V) (p : Sm × Bool) : Prop := ∃ a x, v = .ref a ∧ SqT K H3 a [x, .bl p.2] ∧ IsSm K H x p.1
theorem WP.tk {K : PySem.W.Frag} {H H3 H4 : Hp} {v : V} {p : Sm × Bool} (k : TK K H3 H4) (h : WP K H H3 v p) : WP K H H4 v p := by
  obtain ⟨a, x, e, hT, hs⟩ := h
  exact ⟨a, x, e, k _ _ hT, hs⟩
def wpd (p : Sm × Bool) : PyData := .tuple [p.1.data, .bool p.2]
theorem WP.dp {K : PySem.W.Frag} {H H3 : Hp} (e : Same H H3) {v : V} {p : Sm × Bool} (h : WP K H H3 v p) : Dp K H3 v (wpd p) := by
  obtain ⟨a, x, rfl, hT, hs⟩ := h
  exact .tup hT (.cons (hs.same e).dp (.cons (.bl _) .nil))
theorem wpd_lay {p : Sm × Bool} (h : p.1.In Ch) : (wpd p).canLay0 = true := lay_tup fun d hd => by
  rcases List.mem_cons.mp hd with rfl | hd
  · exact Sm.lay h
  · rw [List.mem_singleton.mp hd]
    rfl
def szs (st : List (Sm × Bool)) : Nat := (st.map fun p => p.1.size).sum
def kns (st : List (Sm × Bool)) : Nat := (st.map fun p => p.1.kn p.2).sum
def jns (st : List (Sm × Bool)) : Nat := (st.map fun p => p.1.joints).sum
theorem szs_cons (p : Sm × Bool) (st : List (Sm × Bool)) : szs (p :: st) = p.1.size + szs st := rfl
theorem kns_cons (p : Sm × Bool) (st : List (Sm × Bool)) : kns (p :: st) = p.1.kn p.2 + kns st := rfl
theorem jns_cons (p : Sm × Bool) (st : List (Sm × Bool)) : jns (p :: st) = p.1.joints + jns st := rfl
theorem szs_len : ∀ st : List (Sm × Bool), st.length ≤ szs st
  | [] => Nat.le_refl _
  | p :: r => by
    have h1 := szs_len r
    have h2 := p.1.size_pos
    rw [szs_cons, List.length_cons]
    omega
end Ob

/-! ### a statement turned by a book -/
namespace Ob
open PySem PySem.Spec PyProof.Rows L2

def Sm.turn (B : List Nat → Option Sm) : Sm → Sm
  | .lt n => (B n).getD (.lt n)
  | .nv => .nv
  | .bin w a b => .bin w (a.turn B) (b.turn B)
def Sm.dp : Sm → Nat
  | .lt _ => 0
  | .nv => 0
  | .bin _ a b => max a.dp b.dp + 1
theorem Sm.dp_joints : ∀ s : Sm, s.dp ≤ s.joints
  | .lt _ => Nat.le_refl _
  | .nv => Nat.le_refl _
  | .bin _ a b => by
    have h1 := a.dp_joints
    have h2 := b.dp_joints
    show max a.dp b.dp + 1 ≤ a.joints + b.joints + 1
    omega
theorem Sm.depth_dp : ∀ s : Sm, s.data.depth ≤ s.dp + 1
  | .lt n => by
    show (PyData.tuple [.str "letter", .str (S n)]).depth ≤ 0 + 1
    simp [PyData.depth, PyData.depthAll]
  | .nv => by decide +kernel
  | .bin w a b => by
    have h1 := a.depth_dp
    have h2 := b.depth_dp
    show (PyData.tuple [.str w.s, a.data, b.data]).depth ≤ (max a.dp b.dp + 1) + 1
    simp only [PyData.depth, PyData.depthAll]
    omega
theorem Sm.dp_turn {B : List Nat → Option Sm} {k : Nat} (hB : ∀ n s, B n = some s → s.dp ≤ k) : ∀ s : Sm, (s.turn B).dp ≤ s.dp + k
  | .lt n => by
    show ((B n).getD (.lt n)).dp ≤ 0 + k
    cases h : B n with
    | none => exact Nat.zero_le _
    | some t =>
      have := hB n t h
      show t.dp ≤ 0 + k
      omega
  | .nv => Nat.zero_le _
  | .bin w a b => by
    have h1 := Sm.dp_turn hB a
    have h2 := Sm.dp_turn hB b
    show max (a.turn B).dp (b.turn B).dp + 1 ≤ max a.dp b.dp + 1 + k
    omega
theorem Sm.In_turn {p : List Nat → Prop} {B : List Nat → Option Sm} (hB : ∀ n s, B n = some s → s.In p) : ∀ {s : Sm}, s.In p → (s.turn B).In p
  | .lt n, h => by
    show ((B n).getD (.lt n)).In p
    cases e : B n with
    | none => exact h
    | some t => exact hB n t e
  | .nv, _ => True.intro
  | .bin _ a b, h => ⟨Sm.In_turn hB (s := a) h.1, Sm.In_turn hB (s := b) h.2⟩
theorem Sm.turn_none {B : List Nat → Option Sm} (hB : ∀ n, B n = none) : ∀ s : Sm, s.turn B = s
  | .lt n => by
    show (B n).getD (.lt n) = .lt n
    rw [hB n]
    rfl
  | .nv => rfl
  | .bin w a b => by
    show Sm.bin w (a.turn B) (b.turn B) = .bin w a b
    rw [Sm.turn_none hB a, Sm.turn_none hB b]
/-- a step of the pile that walks the row from its end -/
def tstep (B : List Nat → Option Sm) (b : Sm) (st : List Sm) : List Sm :=
  match b with
  | .lt n => (Sm.lt n).turn B :: st
  | .nv => .nv :: st
  | .bin w _ _ => match st with
    | x :: y :: r => .bin w x y :: r
    | r => r
def tbuild (B : List Nat → Option Sm) : List Sm → List Sm
  | [] => []
  | b :: r => tstep B b (tbuild B r)
theorem tbuild_standing (B : List Nat → Option Sm) : ∀ (s : Sm) (r : List Sm), tbuild B (s.standing ++ r) = s.turn B :: tbuild B r
  | .lt n, r => rfl
  | .nv, r => rfl
  | .bin w a b, r => by
    show tstep B (.bin w a b) (tbuild B ((a.standing ++ b.standing) ++ r)) = _
    rw [List.append_assoc, tbuild_standing B a, tbuild_standing B b]
    rfl
/-- behind a joint in the row stand its two parts -/
theorem standing_bin : ∀ (s : Sm) (r : List Sm) (k : Nat) (w : J) (a b : Sm) (r' : List Sm), k < s.size → (s.standing ++ r).drop k = .bin w a b :: r' → ∃ r2, r' = a.standing ++ (b.standing ++ r2)
  | .lt n, r, k, w, a, b, r', hk, h => by
    have hk' : k < 1 := hk
    have e : k = 0 := by omega
    subst e
    have h' : Sm.lt n :: r = .bin w a b :: r' := h
    injection h' with h1 _
    cases h1
  | .nv, r, k, w, a, b, r', hk, h => by
    have hk' : k < 1 := hk
    have e : k = 0 := by omega
    subst e
    have h' : Sm.nv :: r = .bin w a b :: r' := h
    injection h' with h1 _
    cases h1
  | .bin u c d, r, 0, w, a, b, r', hk, h => by
    have h' : Sm.bin u c d :: ((c.standing ++ d.standing) ++ r) = .bin w a b :: r' := h
    injection h' with h1 h2
    injection h1 with h3 h4 h5
    subst h4 h5
    exact ⟨r, by rw [← h2, List.append_assoc]⟩
  | .bin u c d, r, k + 1, w, a, b, r', hk, h => by
    have h' : ((c.standing ++ d.standing) ++ r).drop k = .bin w a b :: r' := h
    have hk' : k + 1 < c.size + d.size + 1 := hk
    rw [List.append_assoc] at h'
    by_cases hc : k < c.size
    · exact standing_bin c _ k w a b r' hc h'
    · have lc := c.len_standing
      rw [List.drop_append, List.drop_of_length_le (by omega), List.nil_append, lc] at h'
      exact standing_bin d r (k - c.size) w a b r' (by omega) h'
/-- what the dict's pairs say -/
def Bk (K : PySem.W.Frag) (H : Hp) (kvs : List (Key × V)) (B : List Nat → Option Sm) : Prop :=
  ∀ n, (valV kvs (.inr (S n)) = none ∧ B n = none) ∨ ∃ v s, valV kvs (.inr (S n)) = some v ∧ B n = some s ∧ IsSm K H v s
theorem Bk.same {K : PySem.W.Frag} {H H' : Hp} {kvs : List (Key × V)} {B : List Nat → Option Sm} (e : Same H H') (h : Bk K H kvs B) : Bk K H' kvs B := fun n => by
  rcases h n with h | ⟨v, s, h1, h2, h3⟩
  · exact .inl h
  · exact .inr ⟨v, s, h1, h2, h3.same e⟩
theorem Bk.tk {K : PySem.W.Frag} {H H' : Hp} {kvs : List (Key × V)} {B : List Nat → Option Sm} (e : TK K H H') (h : Bk K H kvs B) : Bk K H' kvs B := fun n => by
  rcases h n with h | ⟨v, s, h1, h2, h3⟩
  · exact .inl h
  · exact .inr ⟨v, s, h1, h2, h3.tk e⟩
theorem Bk.nil {K : PySem.W.Frag} {H : Hp} : Bk K H [] fun _ => none := fun _ => .inl ⟨rfl, rfl⟩
theorem Bk.put {K : PySem.W.Frag} {H : Hp} {kvs : List (Key × V)} {B : List Nat → Option Sm} (h : Bk K H kvs B) (l : List Nat) {v : V} {s : Sm} (hs : IsSm K H v s) : Bk K H (putK kvs (.inr (S l)) v) fun n => if n = l then some s else B n := fun n => by
  show (valV (putK kvs (.inr (S l)) v) (.inr (S n)) = none ∧ (if n = l then some s else B n) = none) ∨ ∃ v' s', valV (putK kvs (.inr (S l)) v) (.inr (S n)) = some v' ∧ (if n = l then some s else B n) = some s' ∧ IsSm K H v' s'
  rw [valV_put]
  by_cases e : n = l
  · subst e
    rw [if_pos rfl, if_pos rfl]
    exact .inr ⟨v, s, rfl, rfl, hs⟩
  · rw [if_neg e, if_neg (fun z => e (S_inj (Sum.inr.inj z)))]
    exact h n
theorem putK_keys {kvs : List (Key × V)} {k : Key} {v : V} (h : (kvs.map (·.1)).Nodup) : ((putK kvs k v).map (·.1)).Nodup := by
  cases e : valV kvs k with
  | none => exact nd_putK v h e
  | some u =>
    have e2 : (kvs.any fun kv => decide (kv.1 = k)) = true := by rw [valV_any, e]; rfl
    unfold putK
    rw [if_pos e2, List.map_map]
    have : (kvs.map ((fun x => x.1) ∘ fun kv => if kv.1 = k then (kv.1, v) else kv)) = kvs.map (·.1) := by
      refine List.map_congr_left fun p _ => ?_
      show (if p.1 = k then (p.1, v) else p).1 = p.1
      by_cases h : p.1 = k
      · rw [if_pos h]
      · rw [if_neg h]
    rw [this]
    exact h
theorem putK_vals {p : V → Prop} {kvs : List (Key × V)} {k : Key} {v : V} (h : ∀ x ∈ kvs, p x.2) (hv : p v) : ∀ x ∈ putK kvs k v, p x.2 := by
  intro x hx
  unfold putK at hx
  by_cases e : (kvs.any fun kv => decide (kv.1 = k)) = true
  · rw [if_pos e] at hx
    obtain ⟨y, hy, rfl⟩ := List.mem_map.mp hx
    show p (if y.1 = k then (y.1, v) else y).2
    by_cases h2 : y.1 = k
    · rw [if_pos h2]
      exact hv
    · rw [if_neg h2]
      exact h y hy
  · rw [if_neg e] at hx
    rcases List.mem_append.mp hx with hx | hx
    · exact h x hx
    · rw [List.mem_singleton.mp hx]
      exact hv
theorem Sm.eqv_self (s : Sm) : PyData.eqv s.data s.data = true := by rw [Sm.eqv, decide_eq_true rfl]
theorem pow_at {i : Nat} (h : i < 4) : ∃ d : Int, atI [V.int 1, V.int 2, V.int 4, V.int 8] (0 + (i : Int)) = some (.int d) ∧ 0 < d ∧ d < 1073741824 := by
  rw [Int.zero_add]
  match i, h with
  | 0, _ => exact ⟨1, atI_nat rfl, by decide, by decide⟩
  | 1, _ => exact ⟨2, atI_nat rfl, by decide, by decide⟩
  | 2, _ => exact ⟨4, atI_nat rfl, by decide, by decide⟩
  | 3, _ => exact ⟨8, atI_nat rfl, by decide, by decide⟩
end Ob

/-! ### two statements, part by part -/
namespace Ob
open PySem PySem.Spec PyProof.Rows L2
/-- the head of a statement's tuple -/
def Sm.hd : Sm → Str
  | .lt _ => "letter"
  | .nv => "never"
  | .bin w _ _ => w.s
theorem IsSm.head {K : PySem.W.Frag} {H : Hp} {v : V} {s : Sm} (h : IsSm K H v s) : ∃ a xs, v = .ref a ∧ SqT K H a (.str s.hd :: xs) := by
  cases h with
  | lt h => exact ⟨_, _, rfl, h⟩
  | nv h => exact ⟨_, _, rfl, h⟩
  | bin h _ _ => exact ⟨_, _, rfl, h⟩
theorem hd_is {s : Sm} {w : J} : (V.str s.hd = V.str w.s) ↔ ∃ a b, s = .bin w a b := by
  constructor
  · intro h
    cases s with
    | lt n =>
      have h' : V.str "letter" = V.str w.s := h
      cases w <;> exact absurd h' (by decide)
    | nv =>
      have h' : V.str "never" = V.str w.s := h
      cases w <;> exact absurd h' (by decide)
    | bin u a b =>
      have : u = w := by
        have e : V.str u.s = V.str w.s := h
        have := j_eq u w
        rw [decide_eq_true e] at this
        exact of_decide_eq_true this.symm
      exact ⟨a, b, by rw [this]⟩
  · rintro ⟨a, b, rfl⟩
    rfl
theorem hd_lt {s : Sm} : (V.str s.hd = V.str "letter") ↔ ∃ n, s = .lt n := by
  constructor
  · intro h
    cases s with
    | lt n => exact ⟨n, rfl⟩
    | nv => exact absurd (show V.str "never" = V.str "letter" from h) (by decide)
    | bin u a b =>
      have h' : V.str u.s = V.str "letter" := h
      cases u <;> exact absurd h' (by decide)
  · rintro ⟨n, rfl⟩
    rfl
theorem hd_nv {s : Sm} : (V.str s.hd = V.str "never") ↔ s = .nv := by
  constructor
  · intro h
    cases s with
    | lt n => exact absurd (show V.str "letter" = V.str "never" from h) (by decide)
    | nv => rfl
    | bin u a b =>
      have h' : V.str u.s = V.str "never" := h
      cases u <;> exact absurd h' (by decide)
  · rintro rfl
    rfl
/-- a tuple of two statements -/
def P2 (K : PySem.W.Frag) (H0 H : Hp) (v : V) (p : Sm × Sm) : Prop := ∃ a x y, v = .ref a ∧ SqT K H a [x, y] ∧ IsSm K H0 x p.1 ∧ IsSm K H0 y p.2
theorem P2.tk {K : PySem.W.Frag} {H0 H H' : Hp} (k : TK K H H') {v : V} {p : Sm × Sm} (h : P2 K H0 H v p) : P2 K H0 H' v p := by
  obtain ⟨a, x, y, e, hT, h1, h2⟩ := h
  exact ⟨a, x, y, e, k _ _ hT, h1, h2⟩
/-- how long a row of pairs may become -/
def Lv (D : Nat) : List (Sm × Sm) → Prop
  | [] => True
  | p :: r => r.length + min p.1.dp p.2.dp ≤ D ∧ Lv D r
theorem Lv.len {D : Nat} : ∀ {l : List (Sm × Sm)}, Lv D l → l.length ≤ D + 1
  | [], _ => Nat.zero_le _
  | p :: r, h => by
    have := h.1
    rw [List.length_cons]
    omega
def szp (st : List (Sm × Sm)) : Nat := (st.map fun p => p.1.size).sum
theorem szp_cons (p : Sm × Sm) (st : List (Sm × Sm)) : szp (p :: st) = p.1.size + szp st := rfl
/-- what stands between the turns -/
def SameI (K : PySem.W.Frag) (H : Hp) (k : Addr) (v u : V) (a b : Sm) (m : Nat) (σ : L2.St) (H3 : Hp) : Prop :=
  ∃ (ws : List V) (st : List (Sm × Sm)) (y3 y4 : Option V), σ = [some v, some u, some (.ref k), y3, y4] ∧ H3 k = some (.lst ws.reverse) ∧ Paired (P2 K H H3) ws st ∧ ((∀ p ∈ st, p.1 = p.2) ↔ a = b) ∧ Lv 5000 st ∧ (∀ p ∈ st, p.1.In Ch ∧ p.2.In Ch) ∧ Same H H3 ∧ szp st = m
/-! ### alike but for one list -/
def But (l : Addr) (H H' : Hp) : Prop := ∀ a o, a ≠ l → H a = some o → H' a = some o
theorem But.refl (l : Addr) (H : Hp) : But l H H := fun _ _ _ h => h
theorem Same.but {H H' : Hp} (s : Same H H') (l : Addr) : But l H H' := fun a o _ h => s a o h
theorem But.trans {l : Addr} {H H' H'' : Hp} (a : But l H H') (b : But l H' H'') : But l H H'' := fun x o n h => b x o n (a x o n h)
theorem But.put {l : Addr} {H : Hp} {o : HO} : But l H (upd H l o) := fun a x n h => by
  rw [upd_ne n]
  exact h
theorem But.tk {K : PySem.W.Frag} {l : Addr} {H H' : Hp} (e : But l H H') {xs : List V} (hl : H l = some (.lst xs)) : TK K H H' := fun a ys hq => by
  rcases hq with (hq | ⟨ob, hq⟩) | hq
  · refine .inl (.inl (e a _ (fun z => ?_) hq))
    rw [z, hl] at hq
    cases hq
  · refine .inl (.inr ⟨ob, e a _ (fun z => ?_) hq⟩)
    rw [z, hl] at hq
    cases hq
  · exact .inr hq
theorem But.free {l : Addr} {H H' : Hp} (e : But l H H') {a : Addr} (n : a ≠ l) (h : H' a = none) : H a = none := by
  cases hh : H a with
  | none => rfl
  | some o =>
    rw [e a o n hh] at h
    cases h
theorem But.newput {l : Addr} {H H' : Hp} (e : But l H H') {a : Addr} {o : HO} (n : H a = none) : But l H (upd H' a o) := fun b x nb hb => by
  rw [upd_ne (ne_of_none hb n)]
  exact e b x nb hb
theorem But.same0 {l : Addr} {H0 H H' : Hp} (s : Same H0 H) (n : H0 l = none) (b : But l H H') : Same H0 H' := fun a o h => b a o (fun z => by
  rw [z, n] at h
  cases h) (s a o h)
/-- a new tuple, then put at the end of a list -/
theorem tup_put {K : PySem.W.Frag} {H : Hp} {l z : Addr} {mv xs : List V} (hM : H l = some (.lst mv)) (nz : H z = none) :
    But l H (upd (upd H z (.tup xs)) l (.lst (mv ++ [.ref z]))) ∧ TK K H (upd (upd H z (.tup xs)) l (.lst (mv ++ [.ref z]))) ∧ SqT K (upd (upd H z (.tup xs)) l (.lst (mv ++ [.ref z]))) z xs := by
  have hM' : (upd H z (.tup xs)) l = some (.lst mv) := by
    rw [upd_ne (ne_of_none hM nz)]
    exact hM
  refine ⟨(Same.but (same_new nz) l).trans But.put, (TK.new nz).trans (TK.lst hM'), .inl (.inl ?_)⟩
  rw [upd_ne (ne_of_none hM nz).symm]
  exact upd_same
/-! ### small ones -/
theorem at3 {a b c d : V} {xs : List V} : atI (a :: b :: c :: d :: xs) 3 = some d := atI_nat (j := 3) rfl
theorem at4 {a b c d e : V} {xs : List V} : atI (a :: b :: c :: d :: e :: xs) 4 = some e := atI_nat (j := 4) rfl
theorem iteT' {c : Bool} {A B : Prop} (h : c = true) (a : A) : if c = true then A else B := by
  rw [if_pos h]
  exact a
theorem iteF' {c : Bool} {A B : Prop} (h : c = false) (b : B) : if c = true then A else B := by
  rw [h, if_neg Bool.false_ne_true]
  exact b
end Ob

/-! ObJ: setdefault in a dict of tuples; numbers as sets of bits; statements that are keys; growths. -/
namespace Ob
open PySem PySem.Spec PyProof.Rows L2
/-! ### d.setdefault(t, v), the keys tuples -/
def rSetT : V → List V → Hp → VK → Prop := fun x xs H Q => ∃ (a : Addr) (kvs : List (List Key × V)) (k : List Key) (b : Addr) (d : V), x = .ref a ∧ xs = [.ref b, d] ∧ H a = some (.dT kvs) ∧ H b = some (.tup (k.map kV)) ∧ kvs.length < sizeLine ∧
  (∀ v, valV kvs k = some v → Q v H) ∧ (valV kvs k = none → Q d (upd H a (.dT (putK kvs k d))))
theorem mt_setT {X : Cx} (hu : X.A.units + 1 < cLine) : MtR X "dict.setdefault" rSetT := by
  intro pins s σ H x xs v us Q I rx rxs h
  obtain ⟨a, kvs, k, b, d, rfl, rfl, ha, hb, hl, q1, q2⟩ := h
  cases rx
  obtain ⟨u1, u2, rfl, r1, r2⟩ := vals2 rxs
  cases r1
  obtain ⟨z, hd, ys, rel, dd⟩ := dt_of I.hok ha
  have hz : ys.length ≤ sizeLine := by
    rw [← Paired.length rel]
    exact z
  refine call_setdefault_heap (hsz := hz) (tupleKind_room_in1 hu) (key_of I.hok hb) hd dd (fun p hp => ?_) (fun hn h' dd' hs => ?_)
  · have r := rel.val k
    rw [hp] at r
    cases ev : valV kvs k with
    | none =>
      rw [ev] at r
      exact (show False from r).elim
    | some v0 =>
      rw [ev] at r
      show EP X pins σ Q p.2 _
      exact ⟨v0, H, I.tok _, r, q1 v0 ev⟩
  · have r := rel.val k
    rw [hn] at r
    cases ev : valV kvs k with
    | some v0 =>
      rw [ev] at r
      exact (show False from r).elim
    | none =>
      have hl2 : (putK kvs k d).length ≤ sizeLine := by
        have := length_putK kvs k d
        omega
      obtain ⟨q, es, ep, hq, h2, h3, h4, _, h5⟩ := dd'
      show EP X pins σ Q u2 _
      refine ⟨d, _, d_write (ob := .dT (putK kvs k d)) I (by rw [ha]; exact True.intro) hs ⟨q, hq⟩ ⟨hl2, hd, _, (rel.put k hb r2).keeps fun c zs ec => ?_, q, es, ep, hq, h2, h3, h4, h5⟩, r2, q2 ev⟩
      rw [upd_ne (ne_of ec ha (fun z => nomatch z))]
      exact ec
theorem tyDT {K : PySem.W.Frag} {H : Hp} {p : Addr} {kvs : List (List Key × V)} (h : H p = some (.dT kvs)) : tyV K "dict" (.ref p) H := .inr (.inr (.inl ⟨rfl, .inr ⟨_, h⟩⟩))

/-! ### numbers as sets -/
theorem b_or (m n : Nat) : Builtin.bitOr (m : Int) (n : Int) = ((m ||| n : Nat) : Int) := by
  rw [Bits.bitOr_pp (Int.natCast_nonneg _) (Int.natCast_nonneg _), Int.toNat_natCast, Int.toNat_natCast]
theorem b_and (m n : Nat) : Builtin.bitAnd (m : Int) (n : Int) = ((m &&& n : Nat) : Int) := by
  rw [bitAnd_pp (Int.natCast_nonneg _) (Int.natCast_nonneg _), Int.toNat_natCast, Int.toNat_natCast]
theorem split_and (m n : Nat) : (m ^^^ (m &&& n)) + (m &&& n) = m := by
  have h := bitOr_and (((m ^^^ (m &&& n) : Nat) : Int)) ((m &&& n : Nat) : Int)
  rw [b_or, b_and] at h
  have e1 : (m ^^^ (m &&& n)) ||| (m &&& n) = m := by
    apply Nat.eq_of_testBit_eq
    intro i
    rw [Nat.testBit_or, Nat.testBit_xor, Nat.testBit_and]
    cases m.testBit i <;> cases n.testBit i <;> rfl
  have e2 : (m ^^^ (m &&& n)) &&& (m &&& n) = 0 := by
    apply Nat.eq_of_testBit_eq
    intro i
    rw [Nat.testBit_and, Nat.testBit_xor, Nat.testBit_and, Nat.zero_testBit]
    cases m.testBit i <;> cases n.testBit i <;> rfl
  rw [e1, e2] at h
  omega
/-- those of m that are not of n -/
theorem b_bar (m n : Nat) : Builtin.bitAnd (m : Int) (Builtin.bitNot (n : Int)) = ((m ^^^ (m &&& n) : Nat) : Int) := by
  have h0 : ¬ (0 : Int) ≤ Builtin.bitNot (n : Int) := by
    unfold Builtin.bitNot
    omega
  have nn : Builtin.bitNot (Builtin.bitNot (n : Int)) = n := by
    unfold Builtin.bitNot
    omega
  unfold Builtin.bitAnd
  rw [decide_eq_true (Int.natCast_nonneg m), decide_eq_false h0]
  show (m : Int) - (((m : Int).toNat &&& (Builtin.bitNot (Builtin.bitNot (n : Int))).toNat : Nat) : Int) = _
  rw [nn, Int.toNat_natCast, Int.toNat_natCast]
  have := split_and m n
  omega
theorem b_shr (m k : Nat) : Builtin.bitAnd ((m : Int) / 2 ^ k) 1 = if m.testBit k = true then 1 else 0 := by
  have e : (m : Int) / 2 ^ k = ((m / 2 ^ k : Nat) : Int) := by
    rw [show (2 : Int) ^ k = ((2 ^ k : Nat) : Int) by rw [Int.natCast_pow]; rfl]
    rfl
  rw [e, bitAnd_m1, Nat.testBit_eq_decide_div_mod_eq]
  by_cases h : m / 2 ^ k % 2 = 1
  · rw [decide_eq_true h, if_pos rfl]
    omega
  · rw [decide_eq_false h, if_neg (fun z => nomatch z)]
    omega
theorem b_shl (k : Nat) : (1 : Int) * 2 ^ k = ((2 ^ k : Nat) : Int) := by
  rw [Int.one_mul, Int.natCast_pow]
  rfl
theorem none_of {m : Nat} : (m = 0) ↔ ∀ i, m.testBit i = false := by
  constructor
  · rintro rfl i
    exact Nat.zero_testBit i
  · intro h
    apply Nat.eq_of_testBit_eq
    intro i
    rw [h i, Nat.zero_testBit]
/-- the set of the numbers with p -/
def Msk (p : Nat → Prop) (m : Nat) : Prop := ∀ j, m.testBit j = true ↔ p j
theorem Msk.and {p q : Nat → Prop} {m n : Nat} (h : Msk p m) (g : Msk q n) : Msk (fun j => p j ∧ q j) (m &&& n) := fun j => by
  rw [Nat.testBit_and, Bool.and_eq_true, h j, g j]
theorem Msk.or {p q : Nat → Prop} {m n : Nat} (h : Msk p m) (g : Msk q n) : Msk (fun j => p j ∨ q j) (m ||| n) := fun j => by
  rw [Nat.testBit_or, Bool.or_eq_true, h j, g j]
theorem Msk.bar {p q : Nat → Prop} {m n : Nat} (h : Msk p m) (g : Msk q n) : Msk (fun j => p j ∧ ¬ q j) (m ^^^ (m &&& n)) := fun j => by
  show _ ↔ (p j ∧ ¬ q j)
  rw [Nat.testBit_xor, Nat.testBit_and, ← h j, ← g j]
  cases m.testBit j <;> cases n.testBit j <;> simp
theorem Msk.one (k : Nat) : Msk (fun j => j = k) (2 ^ k) := fun j => by
  rw [Nat.testBit_two_pow]
  simp [eq_comm]
theorem Msk.zero : Msk (fun _ => False) 0 := fun j => by
  rw [Nat.zero_testBit]
  simp
theorem Msk.iff {p q : Nat → Prop} {m : Nat} (h : Msk p m) (e : ∀ j, p j ↔ q j) : Msk q m := fun j => (h j).trans (e j)
theorem Msk.uniq {p : Nat → Prop} {m n : Nat} (h : Msk p m) (g : Msk p n) : m = n := by
  apply Nat.eq_of_testBit_eq
  intro i
  have := (h i).trans (g i).symm
  cases e1 : m.testBit i <;> cases e2 : n.testBit i <;> simp_all
theorem Msk.none {p : Nat → Prop} {m : Nat} (h : Msk p m) : m = 0 ↔ ∀ j, ¬ p j := by
  rw [none_of]
  constructor
  · intro g j pj
    have := (h j).mpr pj
    rw [g j] at this
    cases this
  · intro g j
    cases e : m.testBit j with
    | false => rfl
    | true => exact absurd ((h j).mp e) (g j)

/-! ### statements whose own tuples are there -/
inductive IsSt (H : Hp) : V → Sm → Prop where
  | lt {a : Addr} {n : List Nat} : H a = some (.tup [.str "letter", .str (S n)]) → IsSt H (.ref a) (.lt n)
  | nv {a : Addr} : H a = some (.tup [.str "never"]) → IsSt H (.ref a) .nv
  | bin {a : Addr} {w : J} {l r : V} {s t : Sm} : H a = some (.tup [.str w.s, l, r]) → IsSt H l s → IsSt H r t → IsSt H (.ref a) (.bin w s t)
theorem IsSt.sm {K : PySem.W.Frag} {H : Hp} {v : V} {s : Sm} (h : IsSt H v s) : IsSm K H v s := by
  induction h with
  | lt h => exact .lt (.inl (.inl h))
  | nv h => exact .nv (.inl (.inl h))
  | bin h _ _ i1 i2 => exact .bin (.inl (.inl h)) i1 i2
/-- the tuples that are tracked stay -/
def TS (H H' : Hp) : Prop := ∀ a xs, H a = some (.tup xs) → H' a = some (.tup xs)
theorem Same.ts {H H' : Hp} (e : Same H H') : TS H H' := fun a xs h => e _ _ h
theorem TS.refl {H : Hp} : TS H H := fun _ _ h => h
theorem TS.trans {H H1 H2 : Hp} (a : TS H H1) (b : TS H1 H2) : TS H H2 := fun x y h => b x y (a x y h)
theorem But.ts {l : Addr} {H H' : Hp} (b : But l H H') (h : ∀ xs, H l ≠ some (.tup xs)) : TS H H' := fun a xs e => b a _ (fun z => h xs (by rw [← z]; exact e)) e
theorem But.tsL {l : Addr} {H H' : Hp} (b : But l H H') {ys : List V} (h : H l = some (.lst ys)) : TS H H' := b.ts fun xs e => by
  rw [h] at e
  cases e
theorem But.tsD {l : Addr} {H H' : Hp} (b : But l H H') {ys : List (List Key × V)} (h : H l = some (.dT ys)) : TS H H' := b.ts fun xs e => by
  rw [h] at e
  cases e
theorem TS.lst {H : Hp} {p : Addr} {xs : List V} {o : HO} (h : H p = some (.lst xs)) : TS H (upd H p o) := But.tsL But.put h
theorem TS.new {H : Hp} {p : Addr} {o : HO} (h : H p = none) : TS H (upd H p o) := Same.ts (same_new h)
theorem IsSt.ts {H H' : Hp} (k : TS H H') {v : V} {s : Sm} (h : IsSt H v s) : IsSt H' v s := by
  induction h with
  | lt h => exact .lt (k _ _ h)
  | nv h => exact .nv (k _ _ h)
  | bin h _ _ i1 i2 => exact .bin (k _ _ h) i1 i2
theorem But.tkD {K : PySem.W.Frag} {l : Addr} {H H' : Hp} (e : But l H H') {xs : List (List Key × V)} (hl : H l = some (.dT xs)) : TK K H H' := fun a ys hq => by
  rcases hq with (hq | ⟨ob, hq⟩) | hq
  · refine .inl (.inl (e a _ (fun z => ?_) hq))
    rw [z, hl] at hq
    cases hq
  · refine .inl (.inr ⟨ob, e a _ (fun z => ?_) hq⟩)
    rw [z, hl] at hq
    cases hq
  · exact .inr hq
/-! ### rows of statements: each part once, behind its own -/
theorem idx_left {rs m : List Sm} {x : Sm} (h : x ∈ rs) : (rs ++ m).idxOf x = rs.idxOf x := by
  rw [List.idxOf_append, if_pos h]
def ky (rs : List Sm) : Sm → List Key
  | .lt n => [.inr "letter", .inr (S n)]
  | .nv => [.inr "never"]
  | .bin w a b => [.inr w.s, .inl ((rs.idxOf a : Nat) : Int), .inl ((rs.idxOf b : Nat) : Int)]
def PIn (rs : List Sm) : Sm → Prop
  | .bin _ a b => a ∈ rs ∧ b ∈ rs
  | _ => True
structure Cls (rs : List Sm) : Prop where
  nd : rs.Nodup
  lo : ∀ (i : Nat) (w : J) (a b : Sm), rs[i]? = some (.bin w a b) → rs.idxOf a < i ∧ rs.idxOf b < i
theorem idx_inj {rs : List Sm} {a b : Sm} (ha : a ∈ rs) (h : rs.idxOf a = rs.idxOf b) : a = b := by
  have l1 : rs.idxOf a < rs.length := List.idxOf_lt_length_iff.mpr ha
  have e1 : rs[rs.idxOf a] = a := List.getElem_idxOf l1
  have l2 : rs.idxOf b < rs.length := h ▸ l1
  have e2 : rs[rs.idxOf b] = b := List.getElem_idxOf l2
  rw [← e1, ← e2]
  simp only [h]
theorem idx_at {rs : List Sm} {a : Sm} (ha : a ∈ rs) : rs[rs.idxOf a]? = some a := by
  have l1 : rs.idxOf a < rs.length := List.idxOf_lt_length_iff.mpr ha
  rw [List.getElem?_eq_getElem l1, List.getElem_idxOf l1]
theorem Cls.pin {rs : List Sm} (h : Cls rs) {s : Sm} (m : s ∈ rs) : PIn rs s := by
  cases s with
  | lt n => exact True.intro
  | nv => exact True.intro
  | bin w a b =>
    have g := h.lo _ w a b (idx_at m)
    have l := List.idxOf_lt_length_iff.mpr m
    exact ⟨List.idxOf_lt_length_iff.mp (by omega), List.idxOf_lt_length_iff.mp (by omega)⟩
theorem J.s_inj {w u : J} (h : w.s = u.s) : w = u := by
  have e := j_eq w u
  rw [decide_eq_true (congrArg V.str h)] at e
  exact of_decide_eq_true e.symm
theorem ky_inj {rs : List Sm} {s t : Sm} (hs : PIn rs s) (ht : PIn rs t) (h : ky rs s = ky rs t) : s = t := by
  cases s with
  | lt n =>
    cases t with
    | lt m =>
      simp only [ky, List.cons.injEq, Sum.inr.injEq, and_true, true_and] at h
      rw [S_inj h]
    | nv => simp [ky] at h
    | bin u c d => simp [ky] at h
  | nv =>
    cases t with
    | lt m => simp [ky] at h
    | nv => rfl
    | bin u c d => simp [ky] at h
  | bin w a b =>
    cases t with
    | lt m => simp [ky] at h
    | nv => simp [ky] at h
    | bin u c d =>
      simp only [ky, List.cons.injEq, Sum.inr.injEq, Sum.inl.injEq, and_true] at h
      obtain ⟨h1, h2, h3⟩ := h
      have e2 : a = c := idx_inj hs.1 (by omega)
      have e3 : b = d := idx_inj hs.2 (by omega)
      rw [J.s_inj h1, e2, e3]
def kvsOf (rs : List Sm) : List (List Key × V) := rs.map fun s => (ky rs s, V.int ((rs.idxOf s : Nat) : Int))
theorem kvs_len (rs : List Sm) : (kvsOf rs).length = rs.length := List.length_map ..
theorem find_in {rs : List Sm} {s : Sm} (c : Cls rs) (hs : PIn rs s) : ∀ {l : List Sm}, (∀ x ∈ l, x ∈ rs) → (l.map fun s => (ky rs s, V.int ((rs.idxOf s : Nat) : Int))).find? (fun kv => decide (kv.1 = ky rs s)) = if s ∈ l then some (ky rs s, V.int ((rs.idxOf s : Nat) : Int)) else none
  | [], _ => by simp
  | t :: l, h => by
    rw [List.map_cons]
    by_cases e : t = s
    · subst e
      rw [List.find?_cons_of_pos (by simp), if_pos (List.mem_cons_self ..)]
    · have ne : ¬ ky rs t = ky rs s := fun z => e (ky_inj (c.pin (h t (List.mem_cons_self ..))) hs z)
      rw [List.find?_cons_of_neg (by simpa using ne), find_in c hs (l := l) fun x hx => h x (List.mem_cons_of_mem _ hx)]
      by_cases m : s ∈ l
      · rw [if_pos m, if_pos (List.mem_cons_of_mem _ m)]
      · rw [if_neg m, if_neg (fun z => by
          rcases List.mem_cons.mp z with z | z
          · exact e z.symm
          · exact m z)]
theorem val_kvs {rs : List Sm} {s : Sm} (c : Cls rs) (hs : PIn rs s) : valV (kvsOf rs) (ky rs s) = if s ∈ rs then some (V.int ((rs.idxOf s : Nat) : Int)) else none := by
  unfold valV kvsOf
  rw [find_in c hs (fun x hx => hx)]
  by_cases m : s ∈ rs
  · rw [if_pos m, if_pos m]
    rfl
  · rw [if_neg m, if_neg m]
    rfl
def add (rs : List Sm) (s : Sm) : List Sm := if s ∈ rs then rs else rs ++ [s]
theorem mem_add {rs : List Sm} {s x : Sm} : x ∈ add rs s ↔ x ∈ rs ∨ x = s := by
  unfold add
  by_cases m : s ∈ rs
  · rw [if_pos m]
    constructor
    · exact .inl
    · rintro (h | rfl)
      · exact h
      · exact m
  · rw [if_neg m]
    simp
theorem idx_add {rs : List Sm} {s x : Sm} (h : x ∈ rs) : (add rs s).idxOf x = rs.idxOf x := by
  unfold add
  by_cases m : s ∈ rs
  · rw [if_pos m]
  · rw [if_neg m, idx_left h]
theorem idx_self {rs : List Sm} {s : Sm} (h : s ∉ rs) : (rs ++ [s]).idxOf s = rs.length := by
  rw [List.idxOf_append, if_neg h, List.idxOf_cons_self, Nat.zero_add]
theorem ky_add {rs : List Sm} {s x : Sm} (h : PIn rs x) : ky (add rs s) x = ky rs x := by
  cases x with
  | lt n => rfl
  | nv => rfl
  | bin w a b => simp only [ky, idx_add h.1, idx_add h.2]
theorem add_cls {rs : List Sm} {s : Sm} (c : Cls rs) (hs : PIn rs s) : Cls (add rs s) := by
  unfold add
  by_cases m : s ∈ rs
  · rw [if_pos m]
    exact c
  · rw [if_neg m]
    refine ⟨?_, fun i w a b h => ?_⟩
    · rw [List.nodup_append]
      exact ⟨c.nd, by simp, fun a ha b hb => by
        rw [List.mem_singleton.mp hb]
        exact fun z => m (z ▸ ha)⟩
    · by_cases hi : i < rs.length
      · rw [List.getElem?_append_left hi] at h
        have g := c.lo i w a b h
        have pi := c.pin (List.mem_of_getElem? h)
        rw [idx_left pi.1, idx_left pi.2]
        exact g
      · rw [List.getElem?_append_right (by omega)] at h
        have e : s = .bin w a b := by
          have := List.mem_of_getElem? h
          exact (List.mem_singleton.mp this).symm
        subst e
        have l1 := List.idxOf_lt_length_iff.mpr hs.1
        have l2 := List.idxOf_lt_length_iff.mpr hs.2
        rw [idx_left hs.1, idx_left hs.2]
        omega
theorem kvs_add {rs : List Sm} {s : Sm} (c : Cls rs) (hs : PIn rs s) (m : s ∉ rs) : putK (kvsOf rs) (ky rs s) (V.int ((rs.length : Nat) : Int)) = kvsOf (add rs s) := by
  have hn := val_kvs c hs
  rw [if_neg m] at hn
  have hany : ¬ ((kvsOf rs).any fun kv => decide (kv.1 = ky rs s)) = true := by
    intro z
    obtain ⟨kv, h1, h2⟩ := List.any_eq_true.mp z
    have := List.find?_eq_none.mp (Option.map_eq_none_iff.mp hn) kv h1
    exact this h2
  unfold putK
  rw [if_neg hany]
  have e : add rs s = rs ++ [s] := by
    unfold add
    rw [if_neg m]
  unfold kvsOf
  rw [e, List.map_append]
  congr 1
  · refine List.map_congr_left fun x hx => ?_
    have h1 := ky_add (s := s) (c.pin hx)
    have h2 := idx_add (s := s) hx
    rw [e] at h1 h2
    rw [h1, h2]
  · have h1 := ky_add (s := s) hs
    rw [e] at h1
    rw [List.map_cons, List.map_nil, h1, idx_self m]
theorem kvs_same {rs : List Sm} {s : Sm} (m : s ∈ rs) : add rs s = rs := by
  unfold add
  rw [if_pos m]
def adds (rs : List Sm) (l : List Sm) : List Sm := l.foldl add rs
theorem adds_snoc (rs l : List Sm) (s : Sm) : adds rs (l ++ [s]) = add (adds rs l) s := by
  unfold adds
  rw [List.foldl_append]
  rfl
theorem mem_adds {x : Sm} : ∀ {l rs : List Sm}, x ∈ adds rs l ↔ x ∈ rs ∨ x ∈ l
  | [], rs => by simp [adds]
  | s :: l, rs => by
    show x ∈ adds (add rs s) l ↔ _
    rw [mem_adds, mem_add, List.mem_cons, or_assoc]
theorem idx_adds {x : Sm} : ∀ {l rs : List Sm}, x ∈ rs → (adds rs l).idxOf x = rs.idxOf x
  | [], rs, _ => rfl
  | s :: l, rs, h => by
    show (adds (add rs s) l).idxOf x = _
    rw [idx_adds (mem_add.mpr (.inl h)), idx_add h]
theorem len_add (rs : List Sm) (s : Sm) : (add rs s).length ≤ rs.length + 1 := by
  unfold add
  by_cases m : s ∈ rs
  · rw [if_pos m]
    omega
  · rw [if_neg m, List.length_append]
    exact Nat.le_refl _
theorem len_adds : ∀ (l rs : List Sm), (adds rs l).length ≤ rs.length + l.length
  | [], rs => Nat.le_refl _
  | s :: l, rs => by
    have h1 := len_add rs s
    have h2 := len_adds l (add rs s)
    show (adds (add rs s) l).length ≤ _
    rw [List.length_cons]
    omega
theorem self_standing (s : Sm) : s ∈ s.standing := by cases s <;> exact List.mem_cons_self ..
theorem self_drop (s : Sm) : s.standing = s :: s.standing.drop 1 := by cases s <;> rfl
theorem standing_lt {s x : Sm} : x ∈ s.standing.drop 1 → x.size < s.size := by
  have aux : ∀ (s x : Sm), x ∈ s.standing → x.size ≤ s.size := by
    intro s
    induction s with
    | lt n => intro x h; rw [List.mem_singleton.mp h]; exact Nat.le_refl _
    | nv => intro x h; rw [List.mem_singleton.mp h]; exact Nat.le_refl _
    | bin w a b iha ihb =>
      intro x h
      rcases List.mem_cons.mp h with rfl | h
      · exact Nat.le_refl _
      · show x.size ≤ a.size + b.size + 1
        rcases List.mem_append.mp h with h | h
        · have := iha x h
          omega
        · have := ihb x h
          omega
  intro h
  cases s with
  | lt n => cases h
  | nv => cases h
  | bin w a b =>
    show x.size < a.size + b.size + 1
    rcases List.mem_append.mp (show x ∈ a.standing ++ b.standing from h) with h | h
    · have := aux a x h
      omega
    · have := aux b x h
      omega
/-- the rows of a list of statements -/
def rsOf (ss : List Sm) : List Sm := ss.foldl (fun rs a => adds rs a.standing.reverse) []
theorem rsOf_snoc (ss : List Sm) (a : Sm) : rsOf (ss ++ [a]) = adds (rsOf ss) a.standing.reverse := by
  unfold rsOf
  rw [List.foldl_append]
  rfl
theorem mem_rsOf {ss : List Sm} {x : Sm} : x ∈ rsOf ss ↔ ∃ a ∈ ss, x ∈ a.standing := by
  have : ∀ (ss rs : List Sm), x ∈ ss.foldl (fun rs a => adds rs a.standing.reverse) rs ↔ x ∈ rs ∨ ∃ a ∈ ss, x ∈ a.standing := by
    intro ss
    induction ss with
    | nil => intro rs; simp
    | cons s r ih =>
      intro rs
      rw [List.foldl_cons, ih, mem_adds, List.mem_reverse]
      simp [or_assoc]
  have h := this ss []
  unfold rsOf
  rw [h]
  simp
/-- the row of one statement ends in itself -/
theorem rsOf_one (a : Sm) : ∃ r, rsOf [a] = r ++ [a] := by
  show ∃ r, adds [] a.standing.reverse = r ++ [a]
  rw [self_drop a, List.reverse_cons, adds_snoc]
  refine ⟨adds [] (a.standing.drop 1).reverse, ?_⟩
  have hn : a ∉ adds [] (a.standing.drop 1).reverse := fun z => by
    rcases mem_adds.mp z with z | z
    · cases z
    · exact Nat.lt_irrefl _ (standing_lt (List.mem_reverse.mp z))
  unfold add
  rw [if_neg hn]

/-! ### growths -/
abbrev Gr := List (List (List Nat) × List Nat)
inductive Rch (g : Gr) : Nat → Nat → Prop where
  | refl {k : Nat} : Rch g k k
  | step {k u j : Nat} {s : List (List Nat) × List Nat} : g[k]? = some s → u ∈ s.2 → Rch g u j → Rch g k j
def Gr.ok (g : Gr) : Prop := ∀ (k : Nat) (s : List (List Nat) × List Nat), g[k]? = some s → ∀ u ∈ s.2, k < u ∧ u < g.length
theorem Rch.trans {g : Gr} {a b c : Nat} (h : Rch g a b) (i : Rch g b c) : Rch g a c := by
  induction h with
  | refl => exact i
  | step e m _ ih => exact .step e m (ih i)
theorem Rch.lt {g : Gr} (ok : g.ok) {a b : Nat} (h : Rch g a b) (l : a < g.length) : b < g.length := by
  induction h with
  | refl => exact l
  | step e m _ ih => exact ih (ok _ _ e _ m).2
theorem Rch.le {g : Gr} (ok : g.ok) {a b : Nat} (h : Rch g a b) : a ≤ b := by
  induction h with
  | refl => exact Nat.le_refl _
  | step e m _ ih =>
    have := (ok _ _ e _ m).1
    omega
theorem rch_iff {g : Gr} {k j : Nat} {s : List (List Nat) × List Nat} (e : g[k]? = some s) : Rch g k j ↔ j = k ∨ ∃ u ∈ s.2, Rch g u j := by
  constructor
  · intro h
    cases h with
    | refl => exact .inl rfl
    | step e' m r =>
      rw [e] at e'
      injection e' with e'
      subst e'
      exact .inr ⟨_, m, r⟩
  · rintro (rfl | ⟨u, m, r⟩)
    · exact .refl
    · exact .step e m r
/-- where a statement holds -/
def Hd (g : Gr) : Sm → Nat → Prop
  | .lt n, k => ∃ s, g[k]? = some s ∧ n ∈ s.1
  | .nv, _ => False
  | .bin .and a b, k => Hd g a k ∧ Hd g b k
  | .bin .or a b, k => Hd g a k ∨ Hd g b k
  | .bin .thn a b, k => ∀ j, Rch g k j → Hd g a j → Hd g b j
/-- a stand; A is true of the lists' places -/
def IsSd (A : Addr → Prop) (H : Hp) (v : V) (s : List (List Nat) × List Nat) : Prop := ∃ t pn pu, v = .ref t ∧ H t = some (.tup [.ref pn, .ref pu]) ∧ H pn = some (.lst (s.1.map fun n => V.str (S n))) ∧ H pu = some (.lst (s.2.map fun u => V.int (u : Nat))) ∧ A pn ∧ A pu
theorem IsSd.same {A : Addr → Prop} {H H' : Hp} (e : Same H H') {v : V} {s : List (List Nat) × List Nat} (h : IsSd A H v s) : IsSd A H' v s := by
  obtain ⟨t, pn, pu, h0, h1, h2, h3, h4⟩ := h
  exact ⟨t, pn, pu, h0, e _ _ h1, e _ _ h2, e _ _ h3, h4⟩
theorem IsSd.any {A : Addr → Prop} {H : Hp} {v : V} {s : List (List Nat) × List Nat} (h : IsSd A H v s) : IsSd (fun _ => True) H v s := by
  obtain ⟨t, pn, pu, h0, h1, h2, h3, _⟩ := h
  exact ⟨t, pn, pu, h0, h1, h2, h3, True.intro, True.intro⟩
structure IsGr (A : Addr → Prop) (H : Hp) (a : Addr) (g : Gr) : Prop where
  ex : ∃ vs, H a = some (.lst vs) ∧ Paired (IsSd A H) vs g
  at_ : A a
theorem IsGr.same {A : Addr → Prop} {H H' : Hp} (e : Same H H') {a : Addr} {g : Gr} (h : IsGr A H a g) : IsGr A H' a g := by
  obtain ⟨⟨vs, h1, h2⟩, h3⟩ := h
  exact ⟨⟨vs, e _ _ h1, pair_map (fun _ _ h => h.same e) h2⟩, h3⟩
theorem IsGr.any {A : Addr → Prop} {H : Hp} {a : Addr} {g : Gr} (h : IsGr A H a g) : IsGr (fun _ => True) H a g := by
  obtain ⟨⟨vs, h1, h2⟩, _⟩ := h
  exact ⟨⟨vs, h1, pair_map (fun _ _ h => h.any) h2⟩, True.intro⟩
theorem IsGr.but {l : Addr} {H H' : Hp} (e : But l H H') (hl : ∀ xs, H l ≠ some (.tup xs)) {a : Addr} {g : Gr} (h : IsGr (fun x => x ≠ l) H a g) : IsGr (fun x => x ≠ l) H' a g := by
  obtain ⟨⟨vs, h1, h2⟩, h3⟩ := h
  refine ⟨⟨vs, e _ _ h3 h1, pair_map (fun v s h => ?_) h2⟩, h3⟩
  obtain ⟨t, pn, pu, k0, k1, k2, k3, k4, k5⟩ := h
  exact ⟨t, pn, pu, k0, e.ts hl _ _ k1, e _ _ k4 k2, e _ _ k5 k3, k4, k5⟩
theorem pair_at {α β : Type} {R : α → β → Prop} : ∀ {xs : List α} {us : List β} {i : Nat} {u : β}, Paired R xs us → us[i]? = some u → ∃ x, xs[i]? = some x ∧ R x u
  | _, _, _, _, .nil, e => by simp at e
  | _, _, 0, u, .cons r _, e => by
    have e' := Option.some.inj e
    subst e'
    exact ⟨_, rfl, r⟩
  | _, _, i + 1, u, .cons _ t, e => by
    obtain ⟨x, h1, h2⟩ := pair_at (i := i) (u := u) t (by simpa using e)
    exact ⟨x, by simpa using h1, h2⟩
theorem inV_nm (n : List Nat) (ls : List (List Nat)) : inV (.str (S n)) (ls.map fun l => V.str (S l)) = decide (n ∈ ls) := by
  rw [show (ls.map fun l => V.str (S l)) = (ls.map S).map V.str by rw [List.map_map]; rfl, inV_str, List.any_map]
  induction ls with
  | nil => rfl
  | cons l r ih =>
    rw [List.any_cons, ih, Function.comp, str_beq]
    by_cases e : l = n
    · subst e
      simp
    · have e2 : ¬ n = l := fun z => e z.symm
      simp [e, e2]
theorem flat_nm (ls : List (List Nat)) : (ls.map fun l => V.str (S l)).all flatV = true := by
  rw [List.all_eq_true]
  intro x hx
  obtain ⟨l, _, rfl⟩ := List.mem_map.mp hx
  rfl
theorem at_first {α : Type} (f : Sm → α) (a : Sm) : atI (a.standing.map f) 0 = some (f a) := by
  rw [self_drop a, List.map_cons]
  exact atI_nat (j := 0) rfl

theorem pg_tupK {X : Cx} {K : PySem.W.Frag} {es : List Expr} {k : Nat} {pos : Pos} {t : TGs} {n : Nat} (hc : X.calm = true) (h : PGs X es t)
    (hn : (assignEach es X.env).length = n := by rfl) (hst : (assignEach es X.env).findIdx? (·.1) = none := by rfl) (hK : X.K = K := by rfl) : PG X (.Tuple es k pos) (gTup K n t) := by
  subst hK
  exact pg_tup hc h hn hst
end Ob

/-! ObL: a list of three numbers that is drawn from. -/
namespace Ob
open PySem PySem.Spec PyProof.Rows L2
def StW (H : Hp) (st : Addr) : Prop := ∃ a b c : Int, H st = some (.lst [.int a, .int b, .int c])
theorem StW.lst {H : Hp} {st : Addr} (h : StW H st) : ∃ xs, H st = some (.lst xs) := by
  obtain ⟨a, b, c, h⟩ := h
  exact ⟨_, h⟩
theorem StW.not {H : Hp} {st : Addr} (h : StW H st) : ∀ xs, H st ≠ some (.tup xs) := fun xs e => by
  obtain ⟨a, b, c, h⟩ := h
  rw [h] at e
  cases e
theorem StW.same {H H' : Hp} {st : Addr} (s : Same H H') (h : StW H st) : StW H' st := by
  obtain ⟨a, b, c, h⟩ := h
  exact ⟨a, b, c, s _ _ h⟩
/-- behind some drawing -/
structure Wd (st : Addr) (H H' : Hp) : Prop where
  bt : But st H H'
  w0 : StW H st
  w1 : StW H' st
theorem Wd.refl {st : Addr} {H : Hp} (h : StW H st) : Wd st H H := ⟨But.refl st H, h, h⟩
theorem Wd.trans {st : Addr} {H H1 H2 : Hp} (a : Wd st H H1) (b : Wd st H1 H2) : Wd st H H2 := ⟨a.bt.trans b.bt, a.w0, b.w1⟩
theorem Wd.of {st : Addr} {H H' : Hp} (h : StW H st) (s : Same H H') : Wd st H H' := ⟨Same.but s st, h, h.same s⟩
theorem Wd.then {st : Addr} {H H1 H2 : Hp} (a : Wd st H H1) (s : Same H1 H2) : Wd st H H2 := a.trans (.of a.w1 s)
theorem Wd.ts {st : Addr} {H H' : Hp} (a : Wd st H H') : TS H H' := a.bt.ts a.w0.not
theorem Wd.tk {K : PySem.W.Frag} {st : Addr} {H H' : Hp} (a : Wd st H H') : TK K H H' := by
  obtain ⟨xs, h⟩ := a.w0.lst
  exact a.bt.tk h
theorem Wd.ne {st : Addr} {H : Hp} (h : StW H st) {p : Addr} (n : H p = none) : p ≠ st := fun e => by
  obtain ⟨xs, h⟩ := h.lst
  rw [e, h] at n
  cases n
theorem Wd.free {st : Addr} {H H' : Hp} (a : Wd st H H') {p : Addr} (n : H' p = none) : H p = none := a.bt.free (Wd.ne a.w1 n) n
/-- an object of one's own changed -/
theorem Wd.put {st : Addr} {H H' : Hp} (a : Wd st H H') {p : Addr} {o : HO} (n : H p = none) : Wd st H (upd H' p o) := by
  refine ⟨a.bt.newput n, a.w0, ?_⟩
  obtain ⟨x, y, z, h⟩ := a.w1
  refine ⟨x, y, z, ?_⟩
  rw [upd_ne (Wd.ne a.w0 n).symm]
  exact h
theorem Wd.new {st : Addr} {H H' : Hp} (a : Wd st H H') {p : Addr} {o : HO} (n : H' p = none) : Wd st H (upd H' p o) := a.then (same_new n)
def sp_draw (K : PySem.W.Frag) : Sp := fun vs H Q _ => ∃ (st : Addr) (m : Int), vs = [.ref st, .int m] ∧ StW H st ∧ 0 < m ∧ m < 2 ^ 4000 ∧ ∀ H' (r : Int), Wd st H H' → 0 ≤ r → r < m → Q (.int r) H'
set_option exponentiation.threshold 5000 in
theorem div_ok {m : Int} (h0 : 0 < m) (h1 : m < 2 ^ 4000) : CDivW 0 m := wide_div (b := 4000) h0 (by
  have e : ((2 ^ 4000 : Nat) : Int) = 2 ^ 4000 := by rw [Int.natCast_pow]; rfl
  omega) (by decide) (by decide)
theorem small_modW (z : Int) : -(2 ^ 64) < z % 2147483647 ∧ z % 2147483647 < 2 ^ 64 := ⟨Int.lt_of_lt_of_le (by decide) (Int.emod_nonneg _ (by decide)), Int.lt_trans (Int.emod_lt_of_pos _ (by decide)) (by decide)⟩
/-! ### names of letters, drawn -/
def dgA : List Nat := [97, 98, 99, 101, 102, 103, 104, 105, 106, 107]
def dgB : List Nat := [98, 99, 101, 102, 103, 104, 105, 106, 107, 108]
theorem dgA_at : ∀ j : Nat, j < 10 → ((("abcefghijk" : Str)).cps.toList)[j]? = some (dgA.getD j 0) := by decide +kernel
theorem dgB_at : ∀ j : Nat, j < 10 → ((("bcefghijkl" : Str)).cps.toList)[j]? = some (dgB.getD j 0) := by decide +kernel
theorem dgA_in : ∀ j : Nat, j < 10 → 97 ≤ dgA.getD j 0 ∧ dgA.getD j 0 ≤ 122 ∧ dgA.getD j 0 ≠ 100 ∧ dgA.getD j 0 ≠ 114 ∧ dgA.getD j 0 ≠ 110 := by decide
theorem dgB_in : ∀ j : Nat, j < 10 → 97 ≤ dgB.getD j 0 ∧ dgB.getD j 0 ≤ 122 ∧ dgB.getD j 0 ≠ 97 ∧ dgB.getD j 0 ≠ 111 ∧ dgB.getD j 0 ≠ 116 ∧ dgB.getD j 0 ≠ 110 := by decide
theorem dgA_inj : ∀ i : Nat, i < 10 → ∀ j : Nat, j < 10 → dgA.getD i 0 = dgA.getD j 0 → i = j := by decide
theorem dgB_inj : ∀ i : Nat, i < 10 → ∀ j : Nat, j < 10 → dgB.getD i 0 = dgB.getD j 0 → i = j := by decide
def nmA (stem : List Nat) (o k : Nat) : List Nat := stem ++ [dgA.getD ((o + k) % 10) 0]
def nmB' (stem : List Nat) (o k : Nat) : List Nat := dgB.getD ((o + k) % 10) 0 :: stem
structure Stem (l : List Nat) : Prop where
  hi : l.length ≤ 7
  abc : ∀ c ∈ l, 97 ≤ c ∧ c ≤ 122
theorem word_and {l : List Nat} (h : S l = "and") : l = [97, 110, 100] := by
  have e : (S l).cps.toList = ("and" : Str).cps.toList := by rw [h]
  exact e.trans (by decide +kernel)
theorem word_or {l : List Nat} (h : S l = "or") : l = [111, 114] := by
  have e : (S l).cps.toList = ("or" : Str).cps.toList := by rw [h]
  exact e.trans (by decide +kernel)
theorem word_then {l : List Nat} (h : S l = "then") : l = [116, 104, 101, 110] := by
  have e : (S l).cps.toList = ("then" : Str).cps.toList := by rw [h]
  exact e.trans (by decide +kernel)
theorem word_never {l : List Nat} (h : S l = "never") : l = [110, 101, 118, 101, 114] := by
  have e : (S l).cps.toList = ("never" : Str).cps.toList := by rw [h]
  exact e.trans (by decide +kernel)
theorem nmA_nm {stem : List Nat} (h : Stem stem) (o k : Nat) : Nm (nmA stem o k) := by
  have hd := dgA_in ((o + k) % 10) (Nat.mod_lt _ (by decide))
  unfold nmA
  have hlast : ∀ {l : List Nat} {c : Nat}, stem ++ [dgA.getD ((o + k) % 10) 0] = l ++ [c] → dgA.getD ((o + k) % 10) 0 = c := fun e => by
    have := congrArg List.getLast? e
    simpa using this
  refine ⟨?_, ?_, ?_, fun z => ?_, fun z => ?_, fun z => ?_, fun z => ?_⟩
  · rw [List.length_append]
    exact Nat.le_add_left _ _
  · rw [List.length_append]
    have := h.hi
    show stem.length + 1 ≤ 8
    omega
  · intro c hc
    rcases List.mem_append.mp hc with hc | hc
    · exact h.abc c hc
    · rw [List.mem_singleton.mp hc]
      exact ⟨hd.1, hd.2.1⟩
  · exact hd.2.2.1 (hlast (l := [97, 110]) (word_and z))
  · exact hd.2.2.2.1 (hlast (l := [111]) (word_or z))
  · exact hd.2.2.2.2 (hlast (l := [116, 104, 101]) (word_then z))
  · exact hd.2.2.2.1 (hlast (l := [110, 101, 118, 101]) (word_never z))
theorem nmB_nm {stem : List Nat} (h : Stem stem) (o k : Nat) : Nm (nmB' stem o k) := by
  have hd := dgB_in ((o + k) % 10) (Nat.mod_lt _ (by decide))
  unfold nmB'
  refine ⟨?_, ?_, ?_, fun z => ?_, fun z => ?_, fun z => ?_, fun z => ?_⟩
  · exact Nat.succ_le_succ (Nat.zero_le _)
  · have := h.hi
    show stem.length + 1 ≤ 8
    omega
  · intro c hc
    rcases List.mem_cons.mp hc with rfl | hc
    · exact ⟨hd.1, hd.2.1⟩
    · exact h.abc c hc
  · have e := word_and z
    injection e with e
    exact hd.2.2.1 e
  · have e := word_or z
    injection e with e
    exact hd.2.2.2.1 e
  · have e := word_then z
    injection e with e
    exact hd.2.2.2.2.1 e
  · have e := word_never z
    injection e with e
    exact hd.2.2.2.2.2 e
theorem nodup_range {f : Nat → List Nat} {m : Nat} (h : ∀ i j, i < m → j < m → f i = f j → i = j) : ((List.range m).map f).Nodup := by
  unfold List.Nodup
  rw [List.pairwise_map]
  refine List.Pairwise.imp_of_mem ?_ (List.pairwise_lt_range (n := m))
  intro i j hi hj hlt e
  have := h i j (List.mem_range.mp hi) (List.mem_range.mp hj) e
  omega
theorem nmA_nodup (stem : List Nat) (o : Nat) {m : Nat} (hm : m ≤ 10) : ((List.range m).map (nmA stem o)).Nodup := nodup_range fun i j hi hj e => by
  have e1 : dgA.getD ((o + i) % 10) 0 = dgA.getD ((o + j) % 10) 0 := by
    have := congrArg List.getLast? e
    simpa [nmA] using this
  have := dgA_inj _ (Nat.mod_lt _ (by decide)) _ (Nat.mod_lt _ (by decide)) e1
  omega
theorem nmB_nodup (stem : List Nat) (o : Nat) {m : Nat} (hm : m ≤ 10) : ((List.range m).map (nmB' stem o)).Nodup := nodup_range fun i j hi hj e => by
  have e1 : dgB.getD ((o + i) % 10) 0 = dgB.getD ((o + j) % 10) 0 := by
    unfold nmB' at e
    injection e
  have := dgB_inj _ (Nat.mod_lt _ (by decide)) _ (Nat.mod_lt _ (by decide)) e1
  omega
theorem Sm.size_dp : ∀ s : Sm, s.size < 2 ^ (s.dp + 1)
  | .lt _ => by show 1 < 2 ^ 1; decide
  | .nv => by show 1 < 2 ^ 1; decide
  | .bin w a b => by
    have h1 := a.size_dp
    have h2 := b.size_dp
    show a.size + b.size + 1 < 2 ^ (max a.dp b.dp + 1 + 1)
    have m1 : 2 ^ (a.dp + 1) ≤ 2 ^ (max a.dp b.dp + 1) := Nat.pow_le_pow_right (by decide) (by omega)
    have m2 : 2 ^ (b.dp + 1) ≤ 2 ^ (max a.dp b.dp + 1) := Nat.pow_le_pow_right (by decide) (by omega)
    rw [Nat.pow_succ 2 (max a.dp b.dp + 1)]
    omega
theorem Sm.size_le {s : Sm} {d : Nat} (h : s.dp ≤ d) : s.size < 2 ^ (d + 1) := Nat.lt_of_lt_of_le s.size_dp (Nat.pow_le_pow_right (by decide) (by omega))
theorem jw7 {k : Nat} (h : k < 7) : ∃ w : J, ([V.str "and", .str "or", .str "then", .str "then", .str "or", .str "and", .str "then"])[k]? = some (.str w.s) := by
  match k, h with
  | 0, _ => exact ⟨.and, rfl⟩
  | 1, _ => exact ⟨.or, rfl⟩
  | 2, _ => exact ⟨.thn, rfl⟩
  | 3, _ => exact ⟨.thn, rfl⟩
  | 4, _ => exact ⟨.or, rfl⟩
  | 5, _ => exact ⟨.and, rfl⟩
  | 6, _ => exact ⟨.thn, rfl⟩
theorem at_map {α : Type} {f : α → V} {ls : List α} {j : Nat} (h : j < ls.length) : atI (ls.map f) ((j : Nat) : Int) = some (f ls[j]) := atI_nat (by
  rw [List.getElem?_map, List.getElem?_eq_getElem h]
  rfl)
/-! ### lists of names as data -/
def nmsD (ls : List (List Nat)) : PyData := .list (ls.map fun l => PyData.str (S l))
theorem dp_nms {K : PySem.W.Frag} {H : Hp} {a : Addr} {ls : List (List Nat)} (h : SqL K H a (ls.map fun l => V.str (S l))) : Dp K H (.ref a) (nmsD ls) := .lst h (by
  clear h
  induction ls with
  | nil => exact .nil
  | cons l r ih => exact .cons (.str _) ih)
theorem lay_nms {ls : List (List Nat)} (h : ∀ l ∈ ls, Ch l) : (nmsD ls).canLay0 = true := lay_lst fun d hd => by
  obtain ⟨l, hl, rfl⟩ := List.mem_map.mp hd
  show PyData.canLay0 (.str (S l)) = true
  rw [PyData.canLay0]
  exact (h l hl).ok
theorem eqv_nms (ls : List (List Nat)) : PyData.eqv (nmsD ls) (nmsD ls) = true := by
  unfold nmsD
  rw [PyData.eqv]
  induction ls with
  | nil => rw [List.map_nil, PyData.eqvAll]
  | cons l r ih =>
    rw [List.map_cons, PyData.eqvAll, ih, eqv_s, beq_self_eq_true]
    rfl
theorem dep_nms (ls : List (List Nat)) : (nmsD ls).depth ≤ 3 := by
  have h : PyData.depthAll (ls.map fun l => PyData.str (S l)) ≤ 2 := by
    induction ls with
    | nil => simp [PyData.depthAll]
    | cons l r ih =>
      rw [List.map_cons, PyData.depthAll]
      have : (PyData.str (S l)).depth ≤ 1 := by simp [PyData.depth]
      omega
  unfold nmsD
  rw [PyData.depth]
  omega
/-- what is sorted are the same names -/
theorem sorted_nms {ls : List (List Nat)} {ys : List Str} (h : ys.Perm (ls.map S)) : ∃ ms : List (List Nat), ys = ms.map S ∧ ms.length = ls.length ∧ ∀ n, n ∈ ms ↔ n ∈ ls := by
  have e : ys = (ys.map fun y => y.cps.toList).map S := by
    rw [List.map_map]
    have : ∀ y : Str, (S ∘ fun y : Str => y.cps.toList) y = y := fun y => S_tl y
    rw [List.map_congr_left (g := id) fun y _ => this y, List.map_id]
  refine ⟨_, e, ?_, fun n => ?_⟩
  · rw [List.length_map, h.length_eq, List.length_map]
  · constructor
    · intro hn
      obtain ⟨y, hy, rfl⟩ := List.mem_map.mp hn
      obtain ⟨l, hl, rfl⟩ := List.mem_map.mp (h.mem_iff.mp hy)
      exact hl
    · intro hn
      exact List.mem_map.mpr ⟨S n, h.mem_iff.mpr (List.mem_map.mpr ⟨n, hn, rfl⟩), rfl⟩
theorem strs_nms (ls : List (List Nat)) : (ls.map fun l => V.str (S l)) = (ls.map S).map V.str := by
  rw [List.map_map]
  rfl
theorem jw3 {k : Nat} (h : k < 3) : ∃ w : J, ([V.str "then", .str "and", .str "or"])[k]? = some (.str w.s) := by
  match k, h with
  | 0, _ => exact ⟨.thn, rfl⟩
  | 1, _ => exact ⟨.and, rfl⟩
  | 2, _ => exact ⟨.or, rfl⟩
/-! ### growths, drawn -/
theorem perm_nms {ls : List (List Nat)} {ys : List Str} (h : ys.Perm (ls.map S)) : ∃ ms : List (List Nat), ys = ms.map S ∧ ms.Perm ls := by
  have e : ys = (ys.map fun y => y.cps.toList).map S := by
    rw [List.map_map]
    have : ∀ y : Str, (S ∘ fun y : Str => y.cps.toList) y = y := fun y => S_tl y
    rw [List.map_congr_left (g := id) fun y _ => this y, List.map_id]
  refine ⟨_, e, ?_⟩
  have h2 := h.map fun y : Str => y.cps.toList
  rw [List.map_map] at h2
  have e2 : ls.map ((fun y : Str => y.cps.toList) ∘ S) = ls := by
    have : ∀ l ∈ ls, ((fun y : Str => y.cps.toList) ∘ S) l = id l := fun l _ => rfl
    rw [List.map_congr_left this, List.map_id]
  rw [e2] at h2
  exact h2
abbrev Std1 := List (List Nat) × List Nat
/-- the names of a stand are some of the sorted ones -/
def NmsOk (ls ns : List (List Nat)) : Prop := ∃ ys : List (List Nat), ys.Perm ls ∧ sortedS (ys.map S) = true ∧ ns.Sublist ys
structure StdP (ls : List (List Nat)) (F : Nat → Std1) (lo many : Nat) : Prop where
  up : ∀ k, lo ≤ k → k < many → ∀ u ∈ (F k).2, k < u ∧ u < many
  inc : ∀ k, lo ≤ k → k < many → (F k).2.Pairwise (· < ·)
  cl : ∀ k, lo ≤ k → k < many → ∀ u ∈ (F k).2, ∀ n ∈ (F k).1, n ∈ (F u).1
  nm : ∀ k, lo ≤ k → k < many → NmsOk ls (F k).1
def setF (F : Nat → Std1) (k : Nat) (s : Std1) : Nat → Std1 := fun j => if j = k then s else F j
theorem setF_self {F : Nat → Std1} {k : Nat} {s : Std1} : setF F k s k = s := if_pos rfl
theorem setF_ne {F : Nat → Std1} {k j : Nat} {s : Std1} (h : j ≠ k) : setF F k s j = F j := if_neg h
theorem StdP.step {ls : List (List Nat)} {F : Nat → Std1} {k many : Nat} {s : Std1} (h : StdP ls F (k + 1) many) (hk : k < many) (h1 : ∀ u ∈ s.2, k < u ∧ u < many) (h2 : s.2.Pairwise (· < ·)) (h3 : ∀ u ∈ s.2, ∀ n ∈ s.1, n ∈ (F u).1) (h4 : NmsOk ls s.1) : StdP ls (setF F k s) k many := by
  have ne : ∀ j, k ≤ j → j ≠ k → k + 1 ≤ j := fun j a b => by omega
  refine ⟨fun j a b u hu => ?_, fun j a b => ?_, fun j a b u hu n hn => ?_, fun j a b => ?_⟩
  · by_cases e : j = k
    · subst e
      rw [setF_self] at hu
      exact h1 u hu
    · rw [setF_ne e] at hu
      exact h.up j (ne j a e) b u hu
  · by_cases e : j = k
    · subst e
      rw [setF_self]
      exact h2
    · rw [setF_ne e]
      exact h.inc j (ne j a e) b
  · by_cases e : j = k
    · subst e
      rw [setF_self] at hu hn
      have := h1 u hu
      rw [setF_ne (by omega)]
      exact h3 u hu n hn
    · rw [setF_ne e] at hu hn
      have := h.up j (ne j a e) b u hu
      rw [setF_ne (by omega)]
      exact h.cl j (ne j a e) b u hu n hn
  · by_cases e : j = k
    · subst e
      rw [setF_self]
      exact h4
    · rw [setF_ne e]
      exact h.nm j (ne j a e) b
/-- a growth as it is drawn -/
structure Good (ls : List (List Nat)) (g : Gr) : Prop where
  ok : g.ok
  inc : ∀ s ∈ g, s.2.Pairwise (· < ·)
  cl : ∀ (k : Nat) (s su : Std1), g[k]? = some s → ∀ u ∈ s.2, g[u]? = some su → ∀ n ∈ s.1, n ∈ su.1
  nm : ∀ s ∈ g, NmsOk ls s.1
theorem StdP.good {ls : List (List Nat)} {F : Nat → Std1} {many : Nat} (h : StdP ls F 0 many) : Good ls ((List.range many).map F) := by
  have at' : ∀ (k : Nat) (s : Std1), ((List.range many).map F)[k]? = some s → k < many ∧ F k = s := fun k s e => by
    rw [List.getElem?_map] at e
    obtain ⟨j, hj, rfl⟩ := Option.map_eq_some_iff.mp e
    have hk := (List.getElem?_eq_some_iff.mp hj).1
    rw [List.length_range] at hk
    rw [List.getElem?_range hk] at hj
    injection hj with hj
    subst hj
    exact ⟨hk, rfl⟩
  refine ⟨fun k s e u hu => ?_, fun s hs => ?_, fun k s su e u hu eu n hn => ?_, fun s hs => ?_⟩
  · obtain ⟨hk, rfl⟩ := at' k s e
    rw [List.length_map, List.length_range]
    exact h.up k (Nat.zero_le _) hk u hu
  · obtain ⟨k, hk, rfl⟩ := List.mem_map.mp hs
    exact h.inc k (Nat.zero_le _) (List.mem_range.mp hk)
  · obtain ⟨hk, rfl⟩ := at' k s e
    obtain ⟨_, rfl⟩ := at' u su eu
    exact h.cl k (Nat.zero_le _) hk u hu n hn
  · obtain ⟨k, hk, rfl⟩ := List.mem_map.mp hs
    exact h.nm k (Nat.zero_le _) (List.mem_range.mp hk)
/-- what holds stays -/
theorem Good.keeps {ls : List (List Nat)} {g : Gr} (h : Good ls g) : ∀ (a : Sm) {k j : Nat}, Rch g k j → k < g.length → Hd g a k → Hd g a j
  | .lt n, k, j, r, hk, hh => by
    induction r with
    | refl => exact hh
    | @step k u j s e m _ ih =>
      obtain ⟨s', e', hn⟩ := hh
      rw [e] at e'
      injection e' with e'
      subst e'
      have hu := (h.ok k s e u m).2
      obtain ⟨su, hsu⟩ : ∃ su, g[u]? = some su := ⟨g[u], List.getElem?_eq_getElem hu⟩
      exact ih hu ⟨su, hsu, h.cl k s su e u m hsu n hn⟩
  | .nv, _, _, _, _, hh => hh.elim
  | .bin .and a b, _, _, r, hk, hh => ⟨h.keeps a r hk hh.1, h.keeps b r hk hh.2⟩
  | .bin .or a b, _, _, r, hk, hh => by
    rcases hh with hh | hh
    · exact .inl (h.keeps a r hk hh)
    · exact .inr (h.keeps b r hk hh)
  | .bin .thn a b, _, _, r, _, hh => fun x rx hx => hh x (r.trans rx) hx
theorem IsSd.wd {st : Addr} {H H' : Hp} (w : Wd st H H') {v : V} {s : Std1} (h : IsSd (· ≠ st) H v s) : IsSd (· ≠ st) H' v s := by
  obtain ⟨t, pn, pu, k0, k1, k2, k3, k4, k5⟩ := h
  exact ⟨t, pn, pu, k0, w.ts _ _ k1, w.bt _ _ k4 k2, w.bt _ _ k5 k3, k4, k5⟩
theorem IsGr.wd {st : Addr} {H H' : Hp} (w : Wd st H H') {a : Addr} {g : Gr} (h : IsGr (· ≠ st) H a g) : IsGr (· ≠ st) H' a g := h.but w.bt w.w0.not
/-! ### what is above, and where a statement holds, as the growths' laws tell it -/
theorem nodup_le : ∀ (n : Nat) (l : List Nat), l.Nodup → (∀ x ∈ l, x < n) → l.length ≤ n
  | 0, l, _, h => by
    cases l with
    | nil => exact Nat.le_refl _
    | cons x r => exact absurd (h x (List.mem_cons_self ..)) (Nat.not_lt_zero x)
  | n + 1, l, nd, h => by
    have h1 := nodup_le n (l.erase n) (nd.erase n) (fun x hx => by
      have := (nd.mem_erase_iff).mp hx
      have := h x this.2
      omega)
    have h2 : l.length ≤ (l.erase n).length + 1 := by
      rw [List.length_erase]
      split <;> omega
    omega
theorem inV_int (x : Nat) (ks : List Nat) : inV (.int (x : Nat)) (ks.map fun k => V.int (k : Nat)) = decide (x ∈ ks) := by
  unfold inV
  rw [List.any_map]
  induction ks with
  | nil => rfl
  | cons k r ih =>
    rw [List.any_cons, ih]
    have e : ((fun y => eqV y (V.int ((x : Nat) : Int))) ∘ fun k : Nat => V.int (k : Nat)) k = decide (k = x) := by
      show ((k : Int) == (x : Int)) = _
      by_cases e : k = x
      · subst e
        simp
      · rw [decide_eq_false e]
        simp
        omega
    rw [e]
    by_cases h : k = x
    · subst h
      simp
    · have h2 : ¬ x = k := fun z => h z.symm
      simp [h, h2]
theorem flat_int (ks : List Nat) : (ks.map fun k => V.int (k : Nat)).all flatV = true := by
  rw [List.all_eq_true]
  intro x hx
  obtain ⟨l, _, rfl⟩ := List.mem_map.mp hx
  rfl
theorem ints_nat (ks : List Nat) : (ks.map fun k => V.int (k : Nat)) = (ks.map fun k : Nat => (k : Int)).map V.int := by
  rw [List.map_map]
  rfl
theorem perm_nats {ks : List Nat} {ns : List Int} (h : ns.Perm (ks.map fun k : Nat => (k : Int))) : ∃ ms : List Nat, ns = ms.map (fun k : Nat => (k : Int)) ∧ ms.Perm ks := by
  have e : ns = (ns.map fun i => i.toNat).map (fun k : Nat => (k : Int)) := by
    rw [List.map_map]
    have : ∀ i ∈ ns, ((fun k : Nat => (k : Int)) ∘ fun i : Int => i.toNat) i = id i := fun i hi => by
      obtain ⟨k, _, rfl⟩ := List.mem_map.mp (h.mem_iff.mp hi)
      rfl
    rw [List.map_congr_left this, List.map_id]
  refine ⟨_, e, ?_⟩
  have h2 := h.map fun i : Int => i.toNat
  rw [List.map_map] at h2
  have e2 : ks.map ((fun i : Int => i.toNat) ∘ fun k : Nat => (k : Int)) = ks := by
    have : ∀ k ∈ ks, ((fun i : Int => i.toNat) ∘ fun k : Nat => (k : Int)) k = id k := fun k _ => rfl
    rw [List.map_congr_left this, List.map_id]
  rw [e2] at h2
  exact h2
/-- the stands at or above each stand, in a dict -/
structure RcOk (A : Addr → Prop) (g : Gr) (H : Hp) (d : Addr) : Prop where
  ex : ∃ kvs : List (Key × V), H d = some (.dK kvs) ∧ (∀ p ∈ kvs, ∃ j : Nat, p.1 = .inl (j : Int) ∧ j < g.length) ∧ kvs.length ≤ g.length ∧
    ∀ k, k < g.length → ∃ (l : Addr) (ks : List Nat), valV kvs (.inl (k : Int)) = some (.ref l) ∧ H l = some (.lst (ks.map fun x => V.int (x : Nat))) ∧ (∀ x, x ∈ ks ↔ Rch g k x) ∧ ks.Nodup ∧ ks.Pairwise (· ≤ ·) ∧ A l
  at_ : A d
theorem RcOk.same {A : Addr → Prop} {g : Gr} {H H' : Hp} (e : Same H H') {d : Addr} (h : RcOk A g H d) : RcOk A g H' d := by
  obtain ⟨⟨kvs, h1, h2, h3, h4⟩, h5⟩ := h
  refine ⟨⟨kvs, e _ _ h1, h2, h3, fun k hk => ?_⟩, h5⟩
  obtain ⟨l, ks, a, b, c⟩ := h4 k hk
  exact ⟨l, ks, a, e _ _ b, c⟩
theorem RcOk.imp {A B : Addr → Prop} {g : Gr} {H : Hp} (f : ∀ a, A a → B a) {d : Addr} (h : RcOk A g H d) : RcOk B g H d := by
  obtain ⟨⟨kvs, h1, h2, h3, h4⟩, h5⟩ := h
  refine ⟨⟨kvs, h1, h2, h3, fun k hk => ?_⟩, f _ h5⟩
  obtain ⟨l, ks, a, b, c, d, e, i⟩ := h4 k hk
  exact ⟨l, ks, a, b, c, d, e, f _ i⟩
theorem RcOk.wd {st : Addr} {g : Gr} {H H' : Hp} (w : Wd st H H') {d : Addr} (h : RcOk (· ≠ st) g H d) : RcOk (· ≠ st) g H' d := by
  obtain ⟨⟨kvs, h1, h2, h3, h4⟩, h5⟩ := h
  refine ⟨⟨kvs, w.bt _ _ h5 h1, h2, h3, fun k hk => ?_⟩, h5⟩
  obtain ⟨l, ks, a, b, c, d, e, i⟩ := h4 k hk
  exact ⟨l, ks, a, w.bt _ _ i b, c, d, e, i⟩
theorem IsGr.imp {A B : Addr → Prop} {g : Gr} {H : Hp} (f : ∀ a, A a → B a) {d : Addr} (h : IsGr A H d g) : IsGr B H d g := by
  obtain ⟨⟨vs, h1, h2⟩, h3⟩ := h
  refine ⟨⟨vs, h1, pair_map (fun v s h => ?_) h2⟩, f _ h3⟩
  obtain ⟨t, pn, pu, k0, k1, k2, k3, k4, k5⟩ := h
  exact ⟨t, pn, pu, k0, k1, k2, k3, f _ k4, f _ k5⟩
/-- one truth for each stand -/
def BsOk (g : Gr) (a : Sm) (n : Nat) (bs : List Bool) : Prop := bs.length = n ∧ ∀ (k : Nat) (b : Bool), bs[k]? = some b → (b = true ↔ Hd g a k)
theorem BsOk.snoc {g : Gr} {a : Sm} {n : Nat} {bs : List Bool} {b : Bool} (h : BsOk g a n bs) (hb : b = true ↔ Hd g a n) : BsOk g a (n + 1) (bs ++ [b]) := by
  refine ⟨by rw [List.length_append, h.1]; rfl, fun k b' e => ?_⟩
  by_cases hk : k < bs.length
  · rw [List.getElem?_append_left hk] at e
    exact h.2 k b' e
  · rw [List.getElem?_append_right (by omega)] at e
    have h0 : k - bs.length = 0 := by
      have := (List.getElem?_eq_some_iff.mp e).1
      simp at this
      omega
    rw [h0] at e
    injection e with e
    subst e
    have : k = n := by
      have := h.1
      omega
    rw [this]
    exact hb
theorem BsOk.at {g : Gr} {a : Sm} {n k : Nat} {bs : List Bool} (h : BsOk g a n bs) (hk : k < n) : ∃ b, (bs.map V.bl)[k]? = some (.bl b) ∧ (b = true ↔ Hd g a k) := by
  have hl : k < bs.length := by rw [h.1]; exact hk
  refine ⟨bs[k], ?_, h.2 k _ (List.getElem?_eq_getElem hl)⟩
  rw [List.getElem?_map, List.getElem?_eq_getElem hl]
  rfl
/-! ### more as data -/
def bsD (bs : List Bool) : PyData := .list (bs.map PyData.bool)
theorem dp_bs {K : PySem.W.Frag} {H : Hp} {a : Addr} {bs : List Bool} (h : SqL K H a (bs.map V.bl)) : Dp K H (.ref a) (bsD bs) := .lst h (by
  clear h
  induction bs with
  | nil => exact .nil
  | cons b r ih => exact .cons (.bl b) ih)
theorem lay_bs (bs : List Bool) : (bsD bs).canLay0 = true := lay_lst fun d hd => by
  obtain ⟨l, hl, rfl⟩ := List.mem_map.mp hd
  rfl
theorem eqv_self (d : PyData) (h : d.canLay0 = true) : PyData.eqv d d = true := SeqAt.eqv_refl _ h
theorem eqv_bs (bs : List Bool) : PyData.eqv (bsD bs) (bsD bs) = true := by
  unfold bsD
  rw [PyData.eqv]
  induction bs with
  | nil => rw [List.map_nil, PyData.eqvAll]
  | cons b r ih =>
    rw [List.map_cons, PyData.eqvAll, ih]
    cases b <;> decide +kernel
theorem dep_bs (bs : List Bool) : (bsD bs).depth ≤ 3 := by
  have h : PyData.depthAll (bs.map PyData.bool) ≤ 2 := by
    induction bs with
    | nil => simp [PyData.depthAll]
    | cons l r ih =>
      rw [List.map_cons, PyData.depthAll]
      have : (PyData.bool l).depth ≤ 1 := by simp [PyData.depth]
      omega
  unfold bsD
  rw [PyData.depth]
  omega
def isD (us : List Nat) : PyData := .list (us.map fun u => PyData.int (u : Nat))
theorem dp_is {K : PySem.W.Frag} {H : Hp} {a : Addr} {us : List Nat} (h : SqL K H a (us.map fun u => V.int (u : Nat))) : Dp K H (.ref a) (isD us) := .lst h (by
  clear h
  induction us with
  | nil => exact .nil
  | cons b r ih => exact .cons (.int _) ih)
theorem lay_is (us : List Nat) : (isD us).canLay0 = true := lay_lst fun d hd => by
  obtain ⟨l, hl, rfl⟩ := List.mem_map.mp hd
  rfl
theorem eqv_is (us : List Nat) : PyData.eqv (isD us) (isD us) = true := by
  unfold isD
  rw [PyData.eqv]
  induction us with
  | nil => rw [List.map_nil, PyData.eqvAll]
  | cons b r ih =>
    rw [List.map_cons, PyData.eqvAll, ih]
    have : PyData.eqv (.int ((b : Nat) : Int)) (.int (b : Nat)) = true := by
      rw [PyData.eqv]
      simp
    rw [this]
    rfl
theorem dep_is (us : List Nat) : (isD us).depth ≤ 3 := by
  have h : PyData.depthAll (us.map fun u => PyData.int (u : Nat)) ≤ 2 := by
    induction us with
    | nil => simp [PyData.depthAll]
    | cons l r ih =>
      rw [List.map_cons, PyData.depthAll]
      have : (PyData.int ((l : Nat) : Int)).depth ≤ 1 := by simp [PyData.depth]
      omega
  unfold isD
  rw [PyData.depth]
  omega
def sdD (s : Std1) : PyData := .tuple [nmsD s.1, isD s.2]
def grD (g : Gr) : PyData := .list (g.map sdD)
theorem IsSd.dp {A : Addr → Prop} {K : PySem.W.Frag} {H : Hp} {v : V} {s : Std1} (h : IsSd A H v s) : Dp K H v (sdD s) := by
  obtain ⟨t, pn, pu, rfl, h1, h2, h3, _⟩ := h
  exact .tup (.inl (.inl h1)) (.cons (dp_nms (SqL.of h2)) (.cons (dp_is (SqL.of h3)) .nil))
theorem IsGr.dp {A : Addr → Prop} {K : PySem.W.Frag} {H : Hp} {a : Addr} {g : Gr} (h : IsGr A H a g) : Dp K H (.ref a) (grD g) := by
  obtain ⟨⟨vs, h1, h2⟩, _⟩ := h
  exact .lst (SqL.of h1) (dpAll_of (fun _ _ h => h.dp) h2)
theorem lay_gr {g : Gr} (h : ∀ s ∈ g, ∀ l ∈ s.1, Ch l) : (grD g).canLay0 = true := lay_lst fun d hd => by
  obtain ⟨s, hs, rfl⟩ := List.mem_map.mp hd
  refine lay_tup fun e he => ?_
  rcases List.mem_cons.mp he with rfl | he
  · exact lay_nms (h s hs)
  · rw [List.mem_singleton.mp he]
    exact lay_is s.2
theorem eqv_gr (g : Gr) : PyData.eqv (grD g) (grD g) = true := by
  unfold grD
  rw [PyData.eqv]
  induction g with
  | nil => rw [List.map_nil, PyData.eqvAll]
  | cons s r ih =>
    rw [List.map_cons, PyData.eqvAll, ih]
    have : PyData.eqv (sdD s) (sdD s) = true := by
      unfold sdD
      rw [eqv_t2, eqv_nms, eqv_is]
      rfl
    rw [this]
    rfl
theorem dep_gr (g : Gr) : (grD g).depth ≤ 8 := by
  have h : PyData.depthAll (g.map sdD) ≤ 7 := by
    induction g with
    | nil => simp [PyData.depthAll]
    | cons s r ih =>
      rw [List.map_cons, PyData.depthAll]
      have : (sdD s).depth ≤ 6 := by
        have h1 := dep_nms s.1
        have h2 := dep_is s.2
        unfold sdD
        simp only [PyData.depth, PyData.depthAll]
        omega
      omega
  unfold grD
  rw [PyData.depth]
  omega
theorem BsOk.uniq {g : Gr} {a : Sm} {n : Nat} {bs cs : List Bool} (h : BsOk g a n bs) (i : BsOk g a n cs) : bs = cs := by
  apply List.ext_getElem?
  intro k
  by_cases hk : k < n
  · have h1 : k < bs.length := by rw [h.1]; exact hk
    have h2 : k < cs.length := by rw [i.1]; exact hk
    have e1 := h.2 k bs[k] (List.getElem?_eq_getElem h1)
    have e2 := i.2 k cs[k] (List.getElem?_eq_getElem h2)
    rw [List.getElem?_eq_getElem h1, List.getElem?_eq_getElem h2]
    congr 1
    cases x : bs[k] <;> cases y : cs[k] <;> simp_all
  · rw [List.getElem?_eq_none (by rw [h.1]; omega), List.getElem?_eq_none (by rw [i.1]; omega)]
/-- what was locked is as it was -/
theorem lock_same {H H' : Hp} {d : Addr} {u : HO} {od : Obj} (hd : H d = some u) (s : Same (upd H d (.frz od u)) H') : Same H (upd H' d u) := fun a o h => by
  by_cases e : a = d
  · subst e
    rw [upd_same, ← hd]
    exact h
  · rw [upd_ne e]
    exact s a o (by rw [upd_ne e]; exact h)
theorem Good.len2 {ls : List (List Nat)} {g : Gr} (h : Good ls g) {s : Std1} (hs : s ∈ g) : s.2.length ≤ g.length := by
  obtain ⟨k, hk, e⟩ := List.mem_iff_getElem.mp hs
  refine nodup_le _ _ ((h.inc s hs).imp fun h => Nat.ne_of_lt h) fun x hx => ?_
  exact (h.ok k s (by rw [List.getElem?_eq_getElem hk, e]) x hx).2
theorem Good.len1 {ls : List (List Nat)} {g : Gr} (h : Good ls g) {s : Std1} (hs : s ∈ g) : s.1.length ≤ ls.length := by
  obtain ⟨ys, p, _, sub⟩ := h.nm s hs
  have := sub.length_le
  rw [p.length_eq] at this
  exact this
theorem Good.mem {ls : List (List Nat)} {g : Gr} (h : Good ls g) {s : Std1} (hs : s ∈ g) {n : List Nat} (hn : n ∈ s.1) : n ∈ ls := by
  obtain ⟨ys, p, _, sub⟩ := h.nm s hs
  exact p.mem_iff.mp (sub.subset hn)
end Ob

/-! ObN: defs called by keywords alone. -/
namespace Ob
open PySem PySem.Spec PyProof.Rows L2
section
variable {X : Cx} {CX : CXT} {k : Nat} {f : Addr} {fd : FuncData} {ps ks : List Str} {sp : Sp} {E : XK} {x : Str} {p pos : Pos} {kws : List Keyword} {tk : TA} {g : List Value → List Value → List Value} {gV : List V → List V → List V}
/-- f(k = v, ..) -/
theorem pe_callK0 (F : FnOk X.prog X.w X.K X.mg X.base CX k f fd ps sp) (hr : Room k X.A) (hg : Gl X x) (hm : X.mg x = some (.ref f)) (hk : PySem.W.keepIn X.K (.ref f) = true) (hb : KBinds X.K fd ps ks g gV) (hx : Passes CX X E)
    (hkw : PK X kws tk) (hall : (backToKw pos (keywordEach kws X.env)).all (·.1.isSome) = true) (hks : (backToKw pos (keywordEach kws X.env)).filterMap (·.1) = ks)
    (hdb : (x == ("__debug__" : Str)) = false) (hpl : ((backTo pos (starEach [] X.env)).any (·.1) || (backToKw pos (keywordEach kws X.env)).any (·.1.isNone)) = false) :
    PE X (.Call (.Name x p) [] kws pos) (tCallK sp gV E tNil tk) := by
  refine ⟨fun pins s σ H Q I h => ?_⟩
  refine wpAny_Call_Name_kw (ld_glob I hg hm ?_ hdb)
  refine PySem.W.callWith_KW0 (h₀ := X.base) I.ok.mod.kin hk hall ?_ hpl
  refine thn (hkw.run pos pins s σ H _ I h) fun ws s2 ⟨zs, H2, I2, rz, q2⟩ => ⟨I2.kIn, ?_⟩
  rw [hks]
  exact run_fnk (us := []) (vs := []) F hr hb hx I2 .nil rz q2
end
section
variable (P : Program) (w : World) (K : PySem.W.Frag) (mg : Str → Option Value) (base : Heap)
/-- a def of the text, that is called by keywords too -/
structure DfK (x : Str) (st : Stmt) (ps ks : List Str) (gV : List V → List V → List V) : Prop where
  ex : ∃ (f : Addr) (fd : FuncData) (g : List Value → List Value → List Value), Fun K x x st f fd ∧ mg x = some (.ref f) ∧ Binds K fd ps [] ∧ KBinds K fd ps ks g gV
structure ClK (k : Nat) (x : Str) (sp : Sp) (ks : List Str) (gV : List V → List V → List V) : Prop where
  ex : ∃ (f : Addr) (fd : FuncData) (ps : List Str) (g : List Value → List Value → List Value), FnOk P w K mg base CX0 k f fd ps sp ∧ mg x = some (.ref f) ∧ PySem.W.keepIn K (.ref f) = true ∧ Binds K fd ps [] ∧ KBinds K fd ps ks g gV
end
section
variable {P : Program} {w : World} {K : PySem.W.Frag} {mg : Str → Option Value} {base : Heap}
theorem DfK.ok {x : Str} {st : Stmt} {ps N ks : List Str} {gV : List V → List V → List V} {k : Nat} {sp : Sp} (D : DfK K mg x st ps ks gV) (S : FnScope N ps (defScope st)) (len : ∀ vs H Q E, sp vs H Q E → vs.length = ps.length)
    (hbody : ∀ (f : Addr) (cdv : Value) (A : Around) (outer : List Env) (s : Shared) (H : Hp) (vs : List V) (Q : VK) (E : XK), Room k (A.deeper (envOfC x (defScope st) s.heap.objs.size f cdv)) → sp vs H Q E →
      ∃ t, PSs (cxOf CX0 P w K mg base N x (defScope st) f cdv A outer s H E).nox (defBody st) t ∧ t { nx := fun _ H' => Q .non H', rt := Q } (start N vs) H) : ClK P w K mg base (k + 1) x sp ks gV := by
  obtain ⟨f, fd, g, F, m, b, kb⟩ := D.ex
  exact ⟨f, fd, ps, g, F.ok S len (hbody f), m, F.kp, b, kb⟩
theorem ClK.cl {k : Nat} {x : Str} {sp : Sp} {ks : List Str} {gV : List V → List V → List V} (c : ClK P w K mg base k x sp ks gV) : Cl P w K mg base k x sp := by
  obtain ⟨f, fd, ps, g, F, m, kp, b, _⟩ := c.ex
  exact ⟨f, fd, ps, F, m, kp, b⟩
end
section
variable {X : Cx}
theorem pe_kK0 {k j : Nat} {x : Str} {sp : Sp} {ks : List Str} {gV : List V → List V → List V} {p pos : Pos} {kws : List Keyword} {tk : TA} (c : ClK X.prog X.w X.K X.mg X.base k x sp ks gV) (hr : Room j X.A) (hk : k ≤ j) (hg : Gl X x) (hkw : PK X kws tk)
    (hall : (backToKw pos (keywordEach kws X.env)).all (·.1.isSome) = true := by rfl) (hks : (backToKw pos (keywordEach kws X.env)).filterMap (·.1) = ks := by rfl)
    (hdb : (x == ("__debug__" : Str)) = false := by decide) (hpl : ((backTo pos (starEach [] X.env)).any (·.1) || (backToKw pos (keywordEach kws X.env)).any (·.1.isNone)) = false := by rfl) : PE X (.Call (.Name x p) [] kws pos) (tCallK sp gV E0 tNil tk) := by
  obtain ⟨f, fd, ps, g, F, m, kp, b, kb⟩ := c.ex
  exact pe_callK0 F (hr.mono hk) hg m kp kb pass0 hkw hall hks hdb hpl
end
/-! ### keywords in the parameters' order -/
def kwId {α : Type} (us ws : List α) : List α := match us with
  | [] => ws
  | _ :: _ => []
def kwSwap {α : Type} (us ws : List α) : List α := match us, ws with
  | [], [a, b] => [b, a]
  | _, _ => []
theorem kwId_rel {vs : List V} {us : List Value} {zs : List V} {ws : List Value} (h : Vals vs us) (g : Vals zs ws) : Vals (kwId vs zs) (kwId us ws) := by
  cases h with
  | nil => exact g
  | cons _ _ => exact .nil
end Ob

/-! ObH: growths cut; a dict made over any walk. -/
namespace Ob
open PySem PySem.Spec PyProof.Rows L2
theorem dc_it {J : It} {n : Nat} {G : Hp → Prop} {Y : Nat → Hp → V → Hp → Prop} (w : Walk J n G Y) {g : TG} {tt : TT} {tk tv : TE} {vs : List Nat} {σ : L2.St} {H1 : Hp} {D : Addr} {Qd : Hp → Prop} (Pv : Nat → Hp → Prop) (h0 : Pv 0 (upd H1 D (.dK []))) (hG : ∀ i H, i ≤ n → Pv i H → G H)
    (hs : ∀ i x H H', i < n → Pv i H → Y i H x H' → g x (wipe σ vs) H' fun σ2 H2 => wipe σ2 vs = wipe σ vs ∧ tt σ2 H2 fun b H3 =>
      if b = true then tk σ2 H3 fun y H4 => tv σ2 H4 fun z H5 => ∃ kvs k, y = kV k ∧ H5 D = some (.dK kvs) ∧ kvs.length < sizeLine ∧ Pv (i + 1) (upd H5 D (.dK (putK kvs k z))) else Pv (i + 1) H3) (hd : ∀ H, Pv n H → Qd H) :
    ∃ W : Nat → Nat → Hp → Prop, (∃ m, W 0 m (upd H1 D (.dK []))) ∧ ∀ i m H, W i m H →
      (J.stop i H ∧ Qd H) ∨ (J.go i H ∧ ∃ Nx : Hp → Prop, (∀ H', Nx H' → ∃ m', m' < m ∧ W (i + 1) m' H') ∧ ∀ x H', J.yld i H x H' → g x (wipe σ vs) H' fun σ2 H2 => wipe σ2 vs = wipe σ vs ∧ tt σ2 H2 fun b H3 =>
        if b = true then tk σ2 H3 fun y H4 => tv σ2 H4 fun z H5 => ∃ kvs k, y = kV k ∧ H5 D = some (.dK kvs) ∧ kvs.length < sizeLine ∧ Nx (upd H5 D (.dK (putK kvs k z))) else Nx H3) := by
  refine ⟨fun i m H => m = n - i ∧ i ≤ n ∧ Pv i H, ⟨n, by simp, Nat.zero_le _, h0⟩, ?_⟩
  rintro i m H ⟨rfl, hi, p⟩
  have q := hG i H hi p
  by_cases hlt : i < n
  · refine .inr ⟨w.goes i H hlt q, Pv (i + 1), fun H' p' => ⟨n - (i + 1), by omega, rfl, hlt, p'⟩, fun x H' y => ?_⟩
    exact hs i x H H' hlt p (w.yields i H x H' hlt q y)
  · have e : i = n := by omega
    subst e
    exact .inl ⟨w.stops H q, hd H p⟩
/-! ### the stands at or above one, in order -/
noncomputable def rchL (g : Gr) (k : Nat) : List Nat := (List.range g.length).filter fun j => @decide (Rch g k j) (Classical.propDecidable _)
theorem mem_rchL {g : Gr} {k j : Nat} : j ∈ rchL g k ↔ j < g.length ∧ Rch g k j := by
  unfold rchL
  rw [List.mem_filter, List.mem_range, @decide_eq_true_iff _ (Classical.propDecidable _)]
theorem rchL_lt (g : Gr) (k : Nat) : (rchL g k).Pairwise (· < ·) := (List.pairwise_lt_range (n := g.length)).filter _
theorem srt_uniq : ∀ {l m : List Nat}, l.Pairwise (· < ·) → m.Pairwise (· < ·) → (∀ x, x ∈ l ↔ x ∈ m) → l = m
  | [], [], _, _, _ => rfl
  | [], y :: m, _, _, h => absurd ((h y).mpr (List.mem_cons_self ..)) List.not_mem_nil
  | x :: l, [], _, _, h => absurd ((h x).mp (List.mem_cons_self ..)) List.not_mem_nil
  | x :: l, y :: m, hl, hm, h => by
    rw [List.pairwise_cons] at hl hm
    have e : x = y := by
      rcases List.mem_cons.mp ((h x).mp (List.mem_cons_self ..)) with e | e
      · exact e
      · rcases List.mem_cons.mp ((h y).mpr (List.mem_cons_self ..)) with e' | e'
        · exact e'.symm
        · have := hm.1 x e
          have := hl.1 y e'
          omega
    subst e
    rw [srt_uniq hl.2 hm.2 fun z => ?_]
    constructor
    · intro hz
      rcases List.mem_cons.mp ((h z).mp (List.mem_cons_of_mem _ hz)) with e | e
      · have := hl.1 z hz
        omega
      · exact e
    · intro hz
      rcases List.mem_cons.mp ((h z).mpr (List.mem_cons_of_mem _ hz)) with e | e
      · have := hm.1 z hz
        omega
      · exact e
theorem srt_strict {l : List Nat} (h : l.Pairwise (· ≤ ·)) (n : l.Nodup) : l.Pairwise (· < ·) := by
  have := List.Pairwise.and h n
  exact this.imp fun ⟨a, b⟩ => by omega
theorem rchL_is {g : Gr} (ok : g.ok) {k : Nat} (hk : k < g.length) {l : List Nat} (h : l.Pairwise (· < ·)) (m : ∀ x, x ∈ l ↔ Rch g k x) : l = rchL g k := srt_uniq h (rchL_lt g k) fun x => by
  rw [m, mem_rchL]
  exact ⟨fun r => ⟨r.lt ok hk, r⟩, fun r => r.2⟩
theorem rchL_head {g : Gr} (ok : g.ok) {k : Nat} (hk : k < g.length) : ∃ r, rchL g k = k :: r := by
  have hm : k ∈ rchL g k := mem_rchL.mpr ⟨hk, .refl⟩
  cases e : rchL g k with
  | nil =>
    rw [e] at hm
    cases hm
  | cons x r =>
    have hx : x ∈ rchL g k := by
      rw [e]
      exact List.mem_cons_self ..
    have le := (mem_rchL.mp hx).2.le ok
    have hlt := rchL_lt g k
    rw [e, List.pairwise_cons] at hlt
    rw [e] at hm
    rcases List.mem_cons.mp hm with h | h
    · exact ⟨r, by rw [h]⟩
    · have := hlt.1 k h
      omega
/-! ### cut -/
def stA (g : Gr) (j : Nat) : Std1 := g.getD j ([], [])
theorem stA_at {g : Gr} {j : Nat} (h : j < g.length) : g[j]? = some (stA g j) := by
  unfold stA
  rw [List.getD_eq_getElem?_getD, List.getElem?_eq_getElem h]
  rfl
def cutG (g : Gr) (ks : List Nat) : Gr := ks.map fun j => ((stA g j).1, (stA g j).2.map fun i => ks.idxOf i)
theorem cutG_len (g : Gr) (ks : List Nat) : (cutG g ks).length = ks.length := List.length_map ..
/-- ks is closed under steps -/
structure Closed (g : Gr) (ks : List Nat) : Prop where
  lt : ks.Pairwise (· < ·)
  lo : ∀ j ∈ ks, j < g.length
  cl : ∀ j ∈ ks, ∀ u ∈ (stA g j).2, u ∈ ks
theorem rchL_closed {g : Gr} (ok : g.ok) (k : Nat) : Closed g (rchL g k) := by
  refine ⟨rchL_lt g k, fun j hj => (mem_rchL.mp hj).1, fun j hj u hu => ?_⟩
  obtain ⟨h1, h2⟩ := mem_rchL.mp hj
  have e := stA_at h1
  exact mem_rchL.mpr ⟨(ok j _ e u hu).2, h2.trans (.step e hu .refl)⟩
theorem idxN_inj {ks : List Nat} {a b : Nat} (ha : a ∈ ks) (h : ks.idxOf a = ks.idxOf b) : a = b := by
  have l1 : ks.idxOf a < ks.length := List.idxOf_lt_length_iff.mpr ha
  have e1 : ks[ks.idxOf a] = a := List.getElem_idxOf l1
  have l2 : ks.idxOf b < ks.length := h ▸ l1
  have e2 : ks[ks.idxOf b] = b := List.getElem_idxOf l2
  rw [← e1, ← e2]
  simp only [h]
theorem idxN_at {ks : List Nat} {a : Nat} (ha : a ∈ ks) : ks[ks.idxOf a]? = some a := by
  have l1 : ks.idxOf a < ks.length := List.idxOf_lt_length_iff.mpr ha
  rw [List.getElem?_eq_getElem l1, List.getElem_idxOf l1]
theorem idxN_of {ks : List Nat} (nd : ks.Nodup) {i j : Nat} (h : ks[i]? = some j) : ks.idxOf j = i := by
  have hi := (List.getElem?_eq_some_iff.mp h).1
  rw [List.getElem?_eq_getElem hi] at h
  injection h with h
  subst h
  exact nd.idxOf_getElem _ hi
theorem idxN_lt {ks : List Nat} (lt : ks.Pairwise (· < ·)) {a b : Nat} (ha : a ∈ ks) (hb : b ∈ ks) (h : a < b) : ks.idxOf a < ks.idxOf b := by
  have l1 : ks.idxOf a < ks.length := List.idxOf_lt_length_iff.mpr ha
  have l2 : ks.idxOf b < ks.length := List.idxOf_lt_length_iff.mpr hb
  have e1 : ks[ks.idxOf a] = a := List.getElem_idxOf l1
  have e2 : ks[ks.idxOf b] = b := List.getElem_idxOf l2
  rcases Nat.lt_trichotomy (ks.idxOf a) (ks.idxOf b) with g | g | g
  · exact g
  · have := idxN_inj ha g
    omega
  · have := List.pairwise_iff_getElem.mp lt _ _ l2 l1 g
    omega
theorem lt_nd {ks : List Nat} (lt : ks.Pairwise (· < ·)) : ks.Nodup := lt.imp fun h => Nat.ne_of_lt h
theorem cutG_at {g : Gr} {ks : List Nat} {i j : Nat} (h : ks[i]? = some j) : (cutG g ks)[i]? = some ((stA g j).1, (stA g j).2.map fun i => ks.idxOf i) := by
  unfold cutG
  rw [List.getElem?_map, h]
  rfl
theorem cutG_ok {g : Gr} {ks : List Nat} (ok : g.ok) (c : Closed g ks) : (cutG g ks).ok := fun i s e u hu => by
  have hi := (List.getElem?_eq_some_iff.mp e).1
  rw [cutG_len] at hi
  have ej : ks[i]? = some ks[i] := List.getElem?_eq_getElem hi
  rw [cutG_at ej] at e
  injection e with e
  subst e
  obtain ⟨v, hv, rfl⟩ := List.mem_map.mp hu
  have hj : ks[i] ∈ ks := List.getElem_mem hi
  have hvk := c.cl _ hj v hv
  have hlt := (ok _ _ (stA_at (c.lo _ hj)) v hv).1
  have e2 : ks.idxOf ks[i] = i := idxN_of (lt_nd c.lt) ej
  have h1 := idxN_lt c.lt hj hvk hlt
  rw [cutG_len]
  exact ⟨by omega, List.idxOf_lt_length_iff.mpr hvk⟩
theorem cut_rch1 {g : Gr} {ks : List Nat} (c : Closed g ks) {j x : Nat} (r : Rch g j x) : j ∈ ks → x ∈ ks ∧ Rch (cutG g ks) (ks.idxOf j) (ks.idxOf x) := by
  induction r with
  | refl => exact fun h => ⟨h, .refl⟩
  | @step k u y s e m _ ih =>
    intro hk
    have hkl := c.lo k hk
    rw [stA_at hkl] at e
    injection e with e
    subst e
    have hu := c.cl k hk u m
    obtain ⟨h1, h2⟩ := ih hu
    exact ⟨h1, .step (cutG_at (idxN_at hk)) (List.mem_map.mpr ⟨u, m, rfl⟩) h2⟩
theorem cut_rch2 {g : Gr} {ks : List Nat} (c : Closed g ks) {i m : Nat} (r : Rch (cutG g ks) i m) : ∀ j, ks[i]? = some j → ∃ x, ks[m]? = some x ∧ Rch g j x := by
  induction r with
  | refl => exact fun j h => ⟨j, h, .refl⟩
  | @step i u y s e hm _ ih =>
    intro j hj
    rw [cutG_at hj] at e
    injection e with e
    subst e
    obtain ⟨v, hv, rfl⟩ := List.mem_map.mp hm
    have hjk := List.mem_of_getElem? hj
    have hvk := c.cl j hjk v hv
    obtain ⟨x, h1, h2⟩ := ih v (idxN_at hvk)
    exact ⟨x, h1, .step (stA_at (c.lo j hjk)) hv h2⟩
/-- where a growth is cut, what is left holds as it held -/
theorem cut_hd {g : Gr} {ks : List Nat} (c : Closed g ks) : ∀ (a : Sm) {i j : Nat}, ks[i]? = some j → (Hd (cutG g ks) a i ↔ Hd g a j)
  | .lt n, i, j, h => by
    have hj := List.mem_of_getElem? h
    constructor
    · rintro ⟨s, e, m⟩
      rw [cutG_at h] at e
      injection e with e
      subst e
      exact ⟨_, stA_at (c.lo j hj), m⟩
    · rintro ⟨s, e, m⟩
      rw [stA_at (c.lo j hj)] at e
      injection e with e
      subst e
      exact ⟨_, cutG_at h, m⟩
  | .nv, _, _, _ => Iff.rfl
  | .bin .and a b, i, j, h => by
    show (Hd _ a i ∧ Hd _ b i) ↔ (Hd _ a j ∧ Hd _ b j)
    rw [cut_hd c a h, cut_hd c b h]
  | .bin .or a b, i, j, h => by
    show (Hd _ a i ∨ Hd _ b i) ↔ (Hd _ a j ∨ Hd _ b j)
    rw [cut_hd c a h, cut_hd c b h]
  | .bin .thn a b, i, j, h => by
    show (∀ m, Rch (cutG g ks) i m → Hd (cutG g ks) a m → Hd (cutG g ks) b m) ↔ (∀ x, Rch g j x → Hd g a x → Hd g b x)
    have hj := List.mem_of_getElem? h
    constructor
    · intro q x r hx
      obtain ⟨hxk, r2⟩ := cut_rch1 c r hj
      rw [idxN_of (lt_nd c.lt) h] at r2
      exact (cut_hd c b (idxN_at hxk)).mp (q _ r2 ((cut_hd c a (idxN_at hxk)).mpr hx))
    · intro q m r hm
      obtain ⟨x, hx, r2⟩ := cut_rch2 c r j h
      exact (cut_hd c b hx).mpr (q x r2 ((cut_hd c a hx).mp hm))
/-- cut at its own first stand it stays -/
theorem cut_cut {g : Gr} (ok : g.ok) {k : Nat} (hk : k < g.length) : rchL (cutG g (rchL g k)) 0 = List.range (rchL g k).length := by
  have c := rchL_closed ok k
  have okc := cutG_ok ok c
  obtain ⟨r, er⟩ := rchL_head ok hk
  have h0 : (rchL g k)[0]? = some k := by rw [er]; rfl
  refine (rchL_is okc (by rw [cutG_len, er]; exact Nat.succ_pos _) List.pairwise_lt_range fun x => ?_).symm
  rw [List.mem_range]
  constructor
  · intro hx
    have e : (rchL g k)[x]? = some (rchL g k)[x] := List.getElem?_eq_getElem hx
    have hm := List.mem_of_getElem? e
    obtain ⟨_, r2⟩ := cut_rch1 c (mem_rchL.mp hm).2 (mem_rchL.mpr ⟨hk, .refl⟩)
    rw [idxN_of (lt_nd c.lt) h0, idxN_of (lt_nd c.lt) e] at r2
    exact r2
  · intro h
    have := h.lt okc (by rw [cutG_len, er]; exact Nat.succ_pos _)
    rw [cutG_len] at this
    exact this
theorem idx_range {n x : Nat} (h : x < n) : (List.range n).idxOf x = x := idxN_of List.nodup_range (by rw [List.getElem?_range h])
theorem cut_id {g : Gr} (ok : g.ok) : cutG g (List.range g.length) = g := by
  apply List.ext_getElem?
  intro i
  by_cases hi : i < g.length
  · have e : (List.range g.length)[i]? = some i := List.getElem?_range hi
    rw [cutG_at e, stA_at hi]
    congr 1
    have : (stA g i).2.map (fun j => (List.range g.length).idxOf j) = (stA g i).2 := by
      have : ∀ j ∈ (stA g i).2, (List.range g.length).idxOf j = id j := fun j hj => idx_range (ok i _ (stA_at hi) j hj).2
      rw [List.map_congr_left this, List.map_id]
    rw [this]
  · rw [List.getElem?_eq_none (by rw [cutG_len, List.length_range]; omega), List.getElem?_eq_none (by omega)]
theorem cut_again {g : Gr} (ok : g.ok) {k : Nat} (hk : k < g.length) : cutG (cutG g (rchL g k)) (rchL (cutG g (rchL g k)) 0) = cutG g (rchL g k) := by
  rw [cut_cut ok hk]
  have h := cut_id (cutG_ok ok (rchL_closed ok k))
  rw [cutG_len] at h
  exact h
theorem pe_bmJ {X : Cx} {K : PySem.W.Frag} {o e : Expr} {es : List Expr} {to : TE} {t : TA} {name : Str} {apos cpos : Pos} {T id : String} {r : PySem.W.Frag → V → List V → Hp → VK → Prop} (hK : X.K = K) (pa : PlainAttrs T) (slot : Slot T name id) (hty : typeOf (.builtin id) = pure (.type "method_descriptor")) (hm : MtR X id (r X.K)) (ho : PE X o to) (ha : PA X (e :: es) t)
    (hbase : attributeBase o name X.env (eval o X.env) = eval o X.env := by rfl)
    (hfew : ((backTo cpos (starEach (e :: es) X.env)).all (fun x => !x.1) && (backToKw cpos (keywordEach [] X.env)).all (fun x => x.1.isSome)
      && decide ((e :: es).length + ([] : List Keyword).length + (if ([] : List Keyword).isEmpty then 0 else 1) < 30)) = true := by rfl)
    (hline : (apos.endLine == cpos.line) = true := by rfl) (hs : starEach (e :: es) X.env = (false, eval e X.env) :: starEach es X.env := by rfl) (hplain : (backTo cpos (starEach es X.env)).any (·.1) = false := by rfl) :
    PE X (.Call (.Attribute o name apos) (e :: es) [] cpos) (tBM K T (r K) to t) := by
  subst hK
  exact pe_bm pa slot hty hm ho ha hbase hfew hline hs hplain
end Ob

namespace Ob
open PySem PySem.Spec PyProof.Rows L2
def topS (i : Nat) : Stmt := PySem.Challenge.pw_onlybuilt_k13_above_and_cut.main.body.getD i (.Pass ⟨0, 0, 0, 0⟩)
abbrev s_has : Stmt := topS 1
abbrev sc_hasN : List Str := ["some", "k"]
theorem sc_has : FnScope sc_hasN ["some", "k"] (defScope s_has) := ⟨rfl, rfl, rfl, by decide +kernel, rfl, by decide +kernel, by decide +kernel⟩
abbrev s_together : Stmt := topS 2
abbrev sc_togetherN : List Str := ["numbers", "some", "k"]
theorem sc_together : FnScope sc_togetherN ["numbers"] (defScope s_together) := ⟨rfl, rfl, rfl, by decide +kernel, rfl, by decide +kernel, by decide +kernel⟩
abbrev s_standing : Stmt := topS 4
abbrev sc_standingN : List Str := ["a", "found", "ahead", "b"]
theorem sc_standing : FnScope sc_standingN ["a"] (defScope s_standing) := ⟨rfl, rfl, rfl, by decide +kernel, rfl, by decide +kernel, by decide +kernel⟩
abbrev s_numbers : Stmt := topS 5
abbrev sc_numbersN : List Str := ["standing", "known", "pile", "numbers", "b", "key", "left", "right", "number"]
theorem sc_numbers : FnScope sc_numbersN ["standing", "known"] (defScope s_numbers) := ⟨rfl, rfl, rfl, by decide +kernel, rfl, by decide +kernel, by decide +kernel⟩
abbrev s_numbered : Stmt := topS 6
abbrev sc_numberedN : List Str := ["statements", "known", "places", "a"]
theorem sc_numbered : FnScope sc_numberedN ["statements"] (defScope s_numbered) := ⟨rfl, rfl, rfl, by decide +kernel, rfl, by decide +kernel, by decide +kernel⟩
abbrev s_rows_of : Stmt := topS 7
abbrev sc_rows_ofN : List Str := ["statements"]
theorem sc_rows_of : FnScope sc_rows_ofN ["statements"] (defScope s_rows_of) := ⟨rfl, rfl, rfl, by decide +kernel, rfl, by decide +kernel, by decide +kernel⟩
abbrev s_ups : Stmt := topS 9
abbrev sc_upsN : List Str := ["growth", "ups", "k", "reached", "j"]
theorem sc_ups : FnScope sc_upsN ["growth"] (defScope s_ups) := ⟨rfl, rfl, rfl, by decide +kernel, rfl, by decide +kernel, by decide +kernel⟩
abbrev s_with_letter : Stmt := topS 10
abbrev sc_with_letterN : List Str := ["growth", "name", "k", "names", "_"]
theorem sc_with_letter : FnScope sc_with_letterN ["growth", "name"] (defScope s_with_letter) := ⟨rfl, rfl, rfl, by decide +kernel, rfl, by decide +kernel, by decide +kernel⟩
abbrev s_with_joint : Stmt := topS 11
abbrev sc_with_jointN : List Str := ["ups", "word", "left", "right", "barring", "k", "up"]
theorem sc_with_joint : FnScope sc_with_jointN ["ups", "word", "left", "right"] (defScope s_with_joint) := ⟨rfl, rfl, rfl, by decide +kernel, rfl, by decide +kernel, by decide +kernel⟩
abbrev s_where : Stmt := topS 12
abbrev sc_whereN : List Str := ["growth", "rows", "ups", "found", "row"]
theorem sc_where : FnScope sc_whereN ["growth", "rows"] (defScope s_where) := ⟨rfl, rfl, rfl, by decide +kernel, rfl, by decide +kernel, by decide +kernel⟩
abbrev s_seen : Stmt := topS 13
abbrev sc_seenN : List Str := ["growth", "a", "stands", "k"]
theorem sc_seen : FnScope sc_seenN ["growth", "a"] (defScope s_seen) := ⟨rfl, rfl, rfl, by decide +kernel, rfl, by decide +kernel, by decide +kernel⟩
abbrev s_above : Stmt := topS 14
abbrev sc_aboveN : List Str := ["growth", "k", "up", "j"]
theorem sc_above : FnScope sc_aboveN ["growth", "k"] (defScope s_above) := ⟨rfl, rfl, rfl, by decide +kernel, rfl, by decide +kernel, by decide +kernel⟩
abbrev s_cut : Stmt := topS 15
abbrev sc_cutN : List Str := ["growth", "k", "kept", "place", "new", "j", "i"]
theorem sc_cut : FnScope sc_cutN ["growth", "k"] (defScope s_cut) := ⟨rfl, rfl, rfl, by decide +kernel, rfl, by decide +kernel, by decide +kernel⟩
abbrev s_law_well : Stmt := topS 17
abbrev sc_law_wellN : List Str := ["_law_cell"]
theorem sc_law_well : FnScope sc_law_wellN ["_law_cell"] (defScope s_law_well) := ⟨rfl, rfl, rfl, by decide +kernel, rfl, by decide +kernel, by decide +kernel⟩
abbrev s_law_draw : Stmt := topS 18
abbrev sc_law_drawN : List Str := ["_law_well_here", "_law_most", "_law_found", "_law_mixed"]
theorem sc_law_draw : FnScope sc_law_drawN ["_law_well_here", "_law_most"] (defScope s_law_draw) := ⟨rfl, rfl, rfl, by decide +kernel, rfl, by decide +kernel, by decide +kernel⟩
abbrev s_law_names : Stmt := topS 19
abbrev sc_law_namesN : List Str := ["_law_well_here", "_law_many", "_law_signs", "_law_stem", "_law_order", "_law_k"]
theorem sc_law_names : FnScope sc_law_namesN ["_law_well_here", "_law_many"] (defScope s_law_names) := ⟨rfl, rfl, rfl, by decide +kernel, rfl, by decide +kernel, by decide +kernel⟩
abbrev s_law_statement : Stmt := topS 20
abbrev sc_law_statementN : List Str := ["_law_well_here", "_law_names_here", "_law_down", "_law_way", "_law_left", "_law_right_here"]
theorem sc_law_statement : FnScope sc_law_statementN ["_law_well_here", "_law_names_here", "_law_down"] (defScope s_law_statement) := ⟨rfl, rfl, rfl, by decide +kernel, rfl, by decide +kernel, by decide +kernel⟩
abbrev s_law_growth : Stmt := topS 21
abbrev sc_law_growthN : List Str := ["_law_well_here", "_law_names_here", "_law_most", "_law_many", "_law_shape", "_law_rooted", "_law_stands", "_law_k", "_law_steps", "_law_here", "_law_j", "_law_name"]
theorem sc_law_growth : FnScope sc_law_growthN ["_law_well_here", "_law_names_here", "_law_most"] (defScope s_law_growth) := ⟨rfl, rfl, rfl, by decide +kernel, rfl, by decide +kernel, by decide +kernel⟩
abbrev s_law_copied : Stmt := topS 22
abbrev sc_law_copiedN : List Str := ["_law_growth_here", "_law_names_here", "_law_steps"]
theorem sc_law_copied : FnScope sc_law_copiedN ["_law_growth_here"] (defScope s_law_copied) := ⟨rfl, rfl, rfl, by decide +kernel, rfl, by decide +kernel, by decide +kernel⟩
abbrev s_law_reach : Stmt := topS 23
abbrev sc_law_reachN : List Str := ["_law_growth_here", "_law_found", "_law_k", "_law_row", "_law_j", "_law_one"]
theorem sc_law_reach : FnScope sc_law_reachN ["_law_growth_here"] (defScope s_law_reach) := ⟨rfl, rfl, rfl, by decide +kernel, rfl, by decide +kernel, by decide +kernel⟩
abbrev s_law_truths : Stmt := topS 24
abbrev sc_law_truthsN : List Str := ["_law_growth_here", "_law_reach_here", "_law_a", "_law_one", "_law_two", "_law_k", "_law_names_here", "_law_steps", "_law_stand", "_law_j"]
theorem sc_law_truths : FnScope sc_law_truthsN ["_law_growth_here", "_law_reach_here", "_law_a"] (defScope s_law_truths) := ⟨rfl, rfl, rfl, by decide +kernel, rfl, by decide +kernel, by decide +kernel⟩
abbrev s_law_cut : Stmt := topS 25
abbrev sc_law_cutN : List Str := ["_law_growth_here", "_law_row", "_law_found", "_law_k", "_law_j"]
theorem sc_law_cut : FnScope sc_law_cutN ["_law_growth_here", "_law_row"] (defScope s_law_cut) := ⟨rfl, rfl, rfl, by decide +kernel, rfl, by decide +kernel, by decide +kernel⟩
abbrev s_law_right : Stmt := topS 26
abbrev sc_law_rightN : List Str := ["_law_growth_here", "_law_k", "_law_row", "_law_truths_here", "_law_a", "_law_handed", "_law_due", "_law_found", "_law_again", "_law_names_here", "_law_steps", "_law_j"]
theorem sc_law_right : FnScope sc_law_rightN ["_law_growth_here", "_law_k", "_law_row", "_law_truths_here", "_law_a"] (defScope s_law_right) := ⟨rfl, rfl, rfl, by decide +kernel, rfl, by decide +kernel, by decide +kernel⟩
abbrev s_law : Stmt := topS 27
abbrev sc_lawN : List Str := ["_law_script", "_law_cell", "_law_well_here", "_law_names_here", "_law_growth_here", "_law_reach_here", "_law_a", "_law_truths_here", "_law_k"]
theorem sc_law : FnScope sc_lawN ["_law_script"] (defScope s_law) := ⟨rfl, rfl, rfl, by decide +kernel, rfl, by decide +kernel, by decide +kernel⟩
structure Txt (w : World) (K : PySem.W.Frag) (mg : Str → Option Value) : Prop where
  n_all : mg "all" = none
  n_enumerate : mg "enumerate" = none
  n_int : mg "int" = none
  n_isinstance : mg "isinstance" = none
  n_len : mg "len" = none
  n_list : mg "list" = none
  n_range : mg "range" = none
  n_reversed : mg "reversed" = none
  n_sorted : mg "sorted" = none
  d_has : Df K mg "has" s_has ["some", "k"]
  d_together : Df K mg "together" s_together ["numbers"]
  d_standing : Df K mg "_standing" s_standing ["a"]
  d_numbers : Df K mg "_numbers" s_numbers ["standing", "known"]
  d_numbered : Df K mg "numbered" s_numbered ["statements"]
  d_rows_of : Df K mg "rows_of" s_rows_of ["statements"]
  d_ups : Df K mg "_ups" s_ups ["growth"]
  d_with_letter : Df K mg "_with_letter" s_with_letter ["growth", "name"]
  d_with_joint : Df K mg "_with_joint" s_with_joint ["ups", "word", "left", "right"]
  d_where : Df K mg "where" s_where ["growth", "rows"]
  d_seen : Df K mg "seen" s_seen ["growth", "a"]
  d_above : Df K mg "above" s_above ["growth", "k"]
  d_cut : Df K mg "cut" s_cut ["growth", "k"]
  d_law_well : Df K mg "_law_well" s_law_well ["_law_cell"]
  d_law_draw : Df K mg "_law_draw" s_law_draw ["_law_well_here", "_law_most"]
  d_law_names : Df K mg "_law_names" s_law_names ["_law_well_here", "_law_many"]
  d_law_statement : Df K mg "_law_statement" s_law_statement ["_law_well_here", "_law_names_here", "_law_down"]
  d_law_growth : Df K mg "_law_growth" s_law_growth ["_law_well_here", "_law_names_here", "_law_most"]
  d_law_copied : Df K mg "_law_copied" s_law_copied ["_law_growth_here"]
  d_law_reach : Df K mg "_law_reach" s_law_reach ["_law_growth_here"]
  d_law_truths : Df K mg "_law_truths" s_law_truths ["_law_growth_here", "_law_reach_here", "_law_a"]
  d_law_cut : Df K mg "_law_cut" s_law_cut ["_law_growth_here", "_law_row"]
  d_law_right : Df K mg "_law_right" s_law_right ["_law_growth_here", "_law_k", "_law_row", "_law_truths_here", "_law_a"]
  d_law : Df K mg "law" s_law ["_law_script"]
section
variable {P : Program}
variable {w : World} {K : PySem.W.Frag} {mg : Str → Option Value} {base : Heap}
/-! ### has -/
def sp_has (K : PySem.W.Frag) : Sp := fun vs H Q _ => ∃ (m k : Nat), vs = [.int m, .int k] ∧ Q (.bl (m.testBit k)) H
theorem ok_has (T : Txt w K mg) : Cl P w K mg base 1 "has" (sp_has K) := by
  refine T.d_has.ok sc_has (fun vs H Q E h => ?_) (fun f cdv A outer s H vs Q E hr h => ?_)
  · obtain ⟨m, k, rfl, _⟩ := h
    rfl
  · obtain ⟨m, k, rfl, q⟩ := h
    refine ⟨_, (pss_one (ps_ret (pe_cmpR op_eq (pe_op op_and (pe_op op_shr (pv 0) (pv 1)) pe_int) pe_int (nomark _)))), ?_⟩
    refine ⟨_, rfl, _, rfl, _, _, rfl, rfl, by omega, _, _, rfl, rfl, rfl, ?_⟩
    rw [Int.toNat_natCast]
    show Q (.bl (decide (V.int (Builtin.bitAnd ((m : Int) / 2 ^ k) 1) = V.int 1))) H
    rw [b_shr]
    cases e : m.testBit k with
    | true =>
      rw [e] at q
      exact q
    | false =>
      rw [e] at q
      exact q
/-! ### together -/
def sp_together (K : PySem.W.Frag) : Sp := fun vs H Q _ => ∃ (p : Addr) (ks : List Nat), vs = [.ref p] ∧ H p = some (.lst (ks.map fun k => V.int (k : Nat))) ∧ (∀ k ∈ ks, k ≤ 100000) ∧ ∀ m : Nat, Msk (fun j => j ∈ ks) m → Q (.int m) H
theorem ok_together (T : Txt w K mg) : Cl P w K mg base 1 "together" (sp_together K) := by
  refine T.d_together.ok sc_together (fun vs H Q E h => ?_) (fun f cdv A outer s H vs Q E hr h => ?_)
  · obtain ⟨p, ks, rfl, _⟩ := h
    rfl
  · obtain ⟨p, ks, rfl, hp, hk, q⟩ := h
    refine ⟨_, (pss_cons (ps_set (i := 1) sc_together.nd rfl (Or.inl rfl) pe_int)
    (pss_cons (ps_for PassesOwn.never rfl (pi_listK (K := K) (pv 0)) (pg_name (i := 2) sc_together.nd rfl (Or.inl rfl))
      (pss_one (ps_set (i := 1) sc_together.nd rfl (Or.inl rfl) (pe_op op_or (pv 1) (pe_op op_shl pe_int (pv 2))))))
    (pss_one (ps_ret (pv 1))))), ?_⟩
    refine ⟨_, rfl, p, rfl, ⟨_, SqL.of hp⟩, for_list (K := K) (a := p) (xs := ks.map fun k => V.int (k : Nat)) (fun i σ H3 => ∃ (m : Nat) (y : Option V), σ = [some (.ref p), some (.int m), y] ∧ Msk (fun j => j ∈ ks.take i) m ∧ H3 = H) ?_ ?_ ?_ ?_⟩
    · exact ⟨0, _, rfl, Msk.zero.iff fun j => by simp, rfl⟩
    · rintro i σ H3 _ ⟨_, _, _, _, rfl⟩
      exact SqL.of hp
    · rintro i x σ H3 hx ⟨m, y, rfl, hm, rfl⟩
      rw [List.getElem?_map] at hx
      obtain ⟨k, hk1, rfl⟩ := Option.map_eq_some_iff.mp hx
      have hk2 := hk k (List.mem_of_getElem? hk1)
      refine ⟨_, rfl, _, rfl, _, _, rfl, rfl, ⟨by omega, by omega, by decide⟩, _, _, rfl, rfl, m ||| 2 ^ k, some (.int k), ?_, ?_, rfl⟩
      · show [some (V.ref p), some (V.int (Builtin.bitOr m (1 * 2 ^ k))), some (V.int k)] = _
        rw [b_shl, b_or]
      · refine (hm.or (Msk.one k)).iff fun j => ?_
        rw [List.take_add_one, hk1, List.mem_append]
        simp
    · rintro σ H3 ⟨m, y, rfl, hm, rfl⟩
      rw [List.length_map, List.take_length] at hm
      exact ⟨_, rfl, q m hm⟩
/-! ### _standing -/
def sp_standing (K : PySem.W.Frag) : Sp := fun vs H Q _ => ∃ (v : V) (s : Sm), vs = [v] ∧ IsSt H v s ∧ s.size ≤ 10000 ∧
  ∀ p H' ws, Same H H' → H p = none → H' p = some (.lst ws) → Paired (IsSt H) ws s.standing → Q (.ref p) H'
theorem ok_standing (T : Txt w K mg) : Cl P w K mg base 1 "_standing" (sp_standing K) := by
  refine T.d_standing.ok sc_standing (fun vs H Q E h => ?_) (fun f cdv A outer s H vs Q E hr h => ?_)
  · obtain ⟨v, s, rfl, _⟩ := h
    rfl
  · obtain ⟨v, a, rfl, hs, hz, q⟩ := h
    refine ⟨_, (pss_cons (ps_set (i := 1) sc_standing.nd rfl (Or.inl rfl) (pe_lst pa_nil))
    (pss_cons (ps_set (i := 2) sc_standing.nd rfl (Or.inl rfl) (pe_lst (pa_cons (pv 0) pa_nil)))
    (pss_cons (ps_while PassesOwn.never (pt_truthK (K := K) (pv 2) (by intro _; rfl))
      (pss_cons (ps_set (i := 3) sc_standing.nd rfl (Or.inl rfl) (pe_bm0 PySem.F.plainAttrs_list PySem.F.slot_list_pop PySem.F.type_list_pop mt_pop (pv 2)))
        (pss_cons (ps_expr (pe_bm PySem.F.plainAttrs_list PySem.F.slot_list_append PySem.F.type_list_append mt_append (pv 1) (pa_cons (pv 3) pa_nil)))
        (pss_one (ps_if (pt_cmpR op_eq (pe_callB (r := rLenK K) call_len_seq rfl T.n_len (by decide +kernel) (pa_cons (pv 3) pa_nil)) pe_int (nomark _))
          (pss_cons (ps_expr (pe_bm PySem.F.plainAttrs_list PySem.F.slot_list_append PySem.F.type_list_append mt_append (pv 2) (pa_cons (pe_ix (r := rIxT K) ix_tup (pv 3) pe_int (fun _ _ => rfl)) pa_nil)))
            (pss_one (ps_expr (pe_bm PySem.F.plainAttrs_list PySem.F.slot_list_append PySem.F.type_list_append mt_append (pv 2) (pa_cons (pe_ix (r := rIxT K) ix_tup (pv 3) pe_int (fun _ _ => rfl)) pa_nil)))))
          pss_nil)))))
    (pss_one (ps_ret (pv 1)))))), ?_⟩
    refine ⟨sz0, fun o no => ⟨_, rfl, sz1, fun k nk => ?_⟩⟩
    have nko : o ≠ k := ne_of_none upd_same nk
    have nk0 : H k = none := (same_new no).free nk
    refine ⟨fun m σ H3 => ∃ (fs ws : List V) (dn st : List Sm) (y : Option V), σ = [some v, some (.ref o), some (.ref k), y] ∧ H3 o = some (.lst fs) ∧ H3 k = some (.lst ws.reverse) ∧ Paired (IsSt H) fs dn ∧ Paired (IsSt H) ws st ∧ a.standing = dn ++ st.flatMap Sm.standing ∧ Same H H3 ∧ m = (st.map Sm.size).sum, ⟨_, [], [v], [], [a], none, rfl, ?_, upd_same, .nil, .cons hs .nil, ?_, (same_new no).trans (same_new nk), rfl⟩, ?_⟩
    · rw [upd_ne nko]
      exact upd_same
    · show a.standing = [] ++ (a.standing ++ [])
      rw [List.append_nil]
      rfl
    · rintro m σ H3 ⟨fs, ws, dn, st, y, rfl, ho, hk, pf, pw, ea, sm, rfl⟩
      cases pw with
      | nil =>
        refine ⟨_, rfl, false, .inl ⟨_, SqL.of hk, rfl⟩, ?_⟩
        refine iteF ⟨_, rfl, q o H3 fs sm no ho ?_⟩
        rw [ea]
        show Paired (IsSt H) fs (dn ++ [])
        rw [List.append_nil]
        exact pf
      | @cons x t ws st hx pw =>
        refine ⟨_, rfl, true, .inl ⟨_, SqL.of hk, emp_rev.symm⟩, ?_⟩
        refine iteT ⟨fun σ' H' => ∃ (fs ws : List V) (dn st' : List Sm) (y : Option V), σ' = [some v, some (.ref o), some (.ref k), y] ∧ H' o = some (.lst fs) ∧ H' k = some (.lst ws.reverse) ∧ Paired (IsSt H) fs dn ∧ Paired (IsSt H) ws st' ∧ a.standing = dn ++ st'.flatMap Sm.standing ∧ Same H H' ∧ (st'.map Sm.size).sum < ((t :: st).map Sm.size).sum, fun σ' H' ⟨fs, ws, dn, st', y, e1, e2, e3, e4, e5, e6, e7, e8⟩ => ⟨_, e8, fs, ws, dn, st', y, e1, e2, e3, e4, e5, e6, e7, rfl⟩, ?_⟩
        refine ⟨_, rfl, tyL hk, k, _, x, rfl, rfl, hk, last_rev, ?_⟩
        rw [drop_rev]
        have hlen : fs.length < 10000 := by
          have h1 := pair_len pf
          have h2 := congrArg List.length ea
          rw [a.len_standing, List.length_append, List.flatMap_cons, List.length_append, t.len_standing] at h2
          have h3 := t.size_pos
          omega
        have ho1 : (upd H3 k (.lst ws.reverse)) o = some (.lst fs) := by
          rw [upd_ne nko]
          exact ho
        refine ⟨_, rfl, tyL ho1, _, rfl, o, _, _, rfl, rfl, ho1, small (by omega), ?_⟩
        have sm1 : Same H (upd (upd H3 k (.lst ws.reverse)) o (.lst (fs ++ [x]))) := same_put (same_put sm nk0) no
        have hk1 : (upd (upd H3 k (.lst ws.reverse)) o (.lst (fs ++ [x]))) k = some (.lst ws.reverse) := by
          rw [upd_ne nko.symm]
          exact upd_same
        have ho2 : (upd (upd H3 k (.lst ws.reverse)) o (.lst (fs ++ [x]))) o = some (.lst (fs ++ [x])) := upd_same
        generalize upd (upd H3 k (.lst ws.reverse)) o (.lst (fs ++ [x])) = H4 at sm1 hk1 ho2 ⊢
        have ea' : a.standing = (dn ++ [t]) ++ ((t.standing.drop 1) ++ st.flatMap Sm.standing) := by
          rw [ea, List.flatMap_cons]
          cases t with
          | lt n => simp [Sm.standing]
          | nv => simp [Sm.standing]
          | bin w l r => simp [Sm.standing]
        have pf' : Paired (IsSt H) (fs ++ [x]) (dn ++ [t]) := pair_app pf (.cons hx .nil)
        have wlen : ws.length ≤ 10000 := by
          have h1 := pair_len pw
          have h2 := congrArg List.length ea
          rw [a.len_standing, List.length_append, List.flatMap_cons, List.length_append, t.len_standing] at h2
          have h3 : ∀ l : List Sm, l.length ≤ (l.flatMap Sm.standing).length := fun l => by
            induction l with
            | nil => exact Nat.le_refl _
            | cons z r ih =>
              rw [List.flatMap_cons, List.length_append, List.length_cons, z.len_standing]
              have := z.size_pos
              omega
          have := h3 st
          omega
        cases hx with
        | lt hT =>
          refine ⟨_, rfl, _, _, rfl, .inr (.inl (.inl (sm1 _ _ hT))), rfl, _, rfl, ?_⟩
          refine iteF ?_
          refine ⟨fs ++ [_], ws, dn ++ [_], st, _, rfl, ho2, hk1, pf', pw, ea', sm1, ?_⟩
          show (st.map Sm.size).sum < 1 + (st.map Sm.size).sum
          omega
        | nv hT =>
          refine ⟨_, rfl, _, _, rfl, .inr (.inl (.inl (sm1 _ _ hT))), rfl, _, rfl, ?_⟩
          refine iteF ?_
          refine ⟨fs ++ [_], ws, dn ++ [_], st, _, rfl, ho2, hk1, pf', pw, ea', sm1, ?_⟩
          show (st.map Sm.size).sum < 1 + (st.map Sm.size).sum
          omega
        | @bin ax w' l r sl sr hT hl hr' =>
          refine ⟨_, rfl, _, _, rfl, .inr (.inl (.inl (sm1 _ _ hT))), rfl, _, rfl, ?_⟩
          refine iteT ?_
          refine ⟨_, rfl, tyL hk1, _, rfl, ax, _, _, r, rfl, rfl, .inl (.inl (sm1 _ _ hT)), at2, k, _, _, rfl, rfl, hk1, ?_, ?_⟩
          · rw [List.length_reverse]
            exact small (by omega)
          rw [add_rev]
          have hk2 : (upd H4 k (.lst (r :: ws).reverse)) k = some (.lst (r :: ws).reverse) := upd_same
          have sm2 : Same H (upd H4 k (.lst (r :: ws).reverse)) := same_put sm1 nk0
          refine ⟨_, rfl, tyL hk2, _, rfl, ax, _, _, l, rfl, rfl, .inl (.inl (sm2 _ _ hT)), at1, k, _, _, rfl, rfl, hk2, ?_, ?_⟩
          · rw [List.length_reverse, List.length_cons]
            exact small (by omega)
          rw [add_rev]
          refine ⟨fs ++ [.ref ax], l :: r :: ws, dn ++ [_], sl :: sr :: st, _, rfl, ?_, upd_same, pf', .cons hl (.cons hr' pw), ?_, same_put sm2 nk0, ?_⟩
          · rw [upd_ne nko, upd_ne nko]
            exact ho2
          · rw [ea', List.flatMap_cons, List.flatMap_cons]
            simp [Sm.standing]
          · show sl.size + (sr.size + (st.map Sm.size).sum) < (sl.size + sr.size + 1) + (st.map Sm.size).sum
            omega
/-! ### _numbers -/
abbrev noB : List Nat → Option Sm := fun _ => none
def ixV (rs : List Sm) (t : Sm) : V := .int ((rs.idxOf t : Nat) : Int)
def sp_numbers (K : PySem.W.Frag) : Sp := fun vs H Q _ => ∃ (ps pk : Addr) (ws : List V) (a : Sm) (rs : List Sm), vs = [.ref ps, .ref pk] ∧ H ps = some (.lst ws) ∧ Paired (IsSt H) ws a.standing ∧ H pk = some (.dT (kvsOf rs)) ∧ Cls rs ∧ rs.length + a.size ≤ 90000 ∧
  ∀ H' p, But pk H H' → H' pk = some (.dT (kvsOf (adds rs a.standing.reverse))) → Cls (adds rs a.standing.reverse) → H p = none → H' p = some (.lst (a.standing.map (ixV (adds rs a.standing.reverse)))) → Q (.ref p) H'
theorem ix_map {rs : List Sm} {t : Sm} : ∀ {l : List Sm}, (∀ x ∈ l, x ∈ rs) → l.map (ixV (add rs t)) = l.map (ixV rs) := fun {l} h => List.map_congr_left fun x hx => by
  show V.int _ = V.int _
  rw [idx_add (h x hx)]
theorem ok_numbers (T : Txt w K mg) : Cl P w K mg base 1 "_numbers" (sp_numbers K) := by
  refine T.d_numbers.ok sc_numbers (fun vs H Q E h => ?_) (fun f cdv A outer s H vs Q E hr h => ?_)
  · obtain ⟨ps, pk, ws, a, rs, rfl, _⟩ := h
    rfl
  · obtain ⟨ps, pk, ws, a, rs, rfl, hps, pw, hpk, hc, hz, q⟩ := h
    refine ⟨_, (pss_cons (ps_set (i := 2) sc_numbers.nd rfl (Or.inl rfl) (pe_lst pa_nil))
    (pss_cons (ps_set (i := 3) sc_numbers.nd rfl (Or.inl rfl) (pe_lst pa_nil))
    (pss_cons (ps_for PassesOwn.never rfl (pi_reversed rfl T.n_reversed (pa_cons (pv 0) pa_nil)) (pg_name (i := 4) sc_numbers.nd rfl (Or.inl rfl))
      (pss_cons (ps_set (i := 5) sc_numbers.nd rfl (Or.inl rfl) (pv 4))
        (pss_cutO (ps_if (pt_cmpR op_eq (pe_callB (r := rLenK K) call_len_seq rfl T.n_len (by decide +kernel) (pa_cons (pv 4) pa_nil)) pe_int (nomark _))
          (pss_cons (ps_set (i := 6) sc_numbers.nd rfl (Or.inl rfl) (pe_bm0 PySem.F.plainAttrs_list PySem.F.slot_list_pop PySem.F.type_list_pop mt_pop (pv 2)))
            (pss_cons (ps_set (i := 7) sc_numbers.nd rfl (Or.inl rfl) (pe_bm0 PySem.F.plainAttrs_list PySem.F.slot_list_pop PySem.F.type_list_pop mt_pop (pv 2)))
            (pss_one (ps_set (i := 5) sc_numbers.nd rfl (Or.inl rfl) (pe_tup (pa_cons (pe_ix (r := rIxT K) ix_tup (pv 4) pe_int (fun _ _ => rfl)) (pa_cons (pv 6) (pa_cons (pv 7) pa_nil))))))))
          pss_nil)
        (pss_cutO (ps_set (i := 8) sc_numbers.nd rfl (Or.inl rfl) (pe_bm PySem.F.plainAttrs_dict PySem.F.slot_dict_setdefault PySem.F.type_dict_setdefault (mt_setT (hu_of hr)) (pv 1) (pa_cons (pv 5) (pa_cons (pe_callB (r := rLenT) call_len_dT rfl T.n_len (by decide +kernel) (pa_cons (pv 1) pa_nil)) pa_nil))))
        (pss_cons (ps_expr (pe_bm PySem.F.plainAttrs_list PySem.F.slot_list_append PySem.F.type_list_append mt_append (pv 2) (pa_cons (pv 8) pa_nil)))
        (pss_one (ps_expr (pe_bm PySem.F.plainAttrs_list PySem.F.slot_list_append PySem.F.type_list_append mt_append (pv 3) (pa_cons (pv 8) pa_nil)))))))))
    (pss_one (ps_ret (pe_revL (pv 3))))))), ?_⟩
    refine ⟨sz0, fun o no => ⟨sz0, fun u nu => ?_⟩⟩
    have s1 : Same H (upd H o (.lst [])) := same_new no
    have s2 : Same H (upd (upd H o (.lst [])) u (.lst [])) := s1.trans (same_new nu)
    have nou : o ≠ u := ne_of_none upd_same nu
    have nu0 : H u = none := s1.free nu
    have ho0 : (upd (upd H o (.lst [])) u (.lst [])) o = some (.lst []) := by rw [upd_ne nou]; exact upd_same
    have hu0 : (upd (upd H o (.lst [])) u (.lst [])) u = some (.lst []) := upd_same
    generalize upd (upd H o (.lst [])) u (.lst []) = H1 at s2 ho0 hu0 ⊢
    have wl : ws.length = a.size := by rw [pair_len pw, a.len_standing]
    have nopk : o ≠ pk := (ne_of_none hpk no).symm
    have nupk : u ≠ pk := (ne_of_none hpk nu0).symm
    have nopp : o ≠ ps := (ne_of_none hps no).symm
    have nupp : u ≠ ps := (ne_of_none hps nu0).symm
    have npp : ps ≠ pk := ne_of hps hpk (by intro z; cases z)
    refine ⟨_, rfl, ps, ws, rfl, SqL.of (s2 _ _ hps), ?_⟩
    refine RT.for_Itv (K := K) (a := ps) (xs := ws) (fun i σ H3 => ∃ (y4 y5 y6 y7 y8 : Option V), σ = [some (.ref ps), some (.ref pk), some (.ref o), some (.ref u), y4, y5, y6, y7, y8] ∧
      H3 o = some (.lst ((tbuild noB (a.standing.drop (ws.length - i))).map (ixV (adds rs (a.standing.drop (ws.length - i)).reverse))).reverse) ∧ H3 u = some (.lst ((a.standing.drop (ws.length - i)).reverse.map (ixV (adds rs (a.standing.drop (ws.length - i)).reverse)))) ∧
      H3 pk = some (.dT (kvsOf (adds rs (a.standing.drop (ws.length - i)).reverse))) ∧ Cls (adds rs (a.standing.drop (ws.length - i)).reverse) ∧ (∀ x ∈ tbuild noB (a.standing.drop (ws.length - i)), x ∈ adds rs (a.standing.drop (ws.length - i)).reverse) ∧ (tbuild noB (a.standing.drop (ws.length - i))).length ≤ i ∧ But pk H H3) ?_ ?_ ?_ ?_
    · rw [Nat.sub_zero, List.drop_of_length_le (by rw [a.len_standing]; omega)]
      exact ⟨_, _, _, _, _, rfl, ho0, hu0, s2 _ _ hpk, hc, fun x hx => absurd hx List.not_mem_nil, Nat.zero_le _, Same.but s2 pk⟩
    · rintro i σ H3 ⟨_, _, _, _, _, _, _, _, _, _, _, _, b⟩
      exact SqL.of (b _ _ npp hps)
    · rintro i x σ H3 hi hx ⟨y4, y5, y6, y7, y8, rfl, ho, hu, hk, cls, tin, tlen, bt⟩
      obtain ⟨t, ht, it0⟩ := pair_get pw hx
      have ts : TS H H3 := bt.tsD hpk
      have it := it0.ts ts
      have hdrop : a.standing.drop (ws.length - (i + 1)) = t :: a.standing.drop (ws.length - i) := by
        have e : ws.length - (i + 1) = ws.length - 1 - i := by omega
        have hlt : ws.length - 1 - i < a.standing.length := by rw [a.len_standing]; omega
        have e2 : a.standing[ws.length - 1 - i] = t := by
          rw [List.getElem?_eq_getElem hlt] at ht
          exact Option.some.inj ht
        rw [e, List.drop_eq_getElem_cons hlt, e2, show ws.length - 1 - i + 1 = ws.length - i by omega]
      have hlenL : (a.standing.drop (ws.length - i)).length = i := by
        rw [List.length_drop, a.len_standing]
        omega
      have hk0 : ws.length - (i + 1) < a.size := by omega
      rw [hdrop, List.reverse_cons, adds_snoc]
      -- what stands behind t
      have hbin : ∀ (j : J) (b c : Sm), t = .bin j b c → ∃ r2, a.standing.drop (ws.length - i) = b.standing ++ (c.standing ++ r2) := fun j b c e => by
        obtain ⟨r2, er⟩ := standing_bin a [] (ws.length - (i + 1)) j b c (a.standing.drop (ws.length - i)) hk0 (by rw [List.append_nil, hdrop, e])
        exact ⟨r2, er⟩
      have hlrs : (adds rs (a.standing.drop (ws.length - i)).reverse).length ≤ 90000 := by
        have := len_adds (a.standing.drop (ws.length - i)).reverse rs
        rw [List.length_reverse, hlenL] at this
        omega
      have hmemL : ∀ x ∈ (a.standing.drop (ws.length - i)).reverse, x ∈ adds rs (a.standing.drop (ws.length - i)).reverse := fun x hx => mem_adds.mpr (.inr hx)
      generalize a.standing.drop (ws.length - i) = L at ho hu hk cls tin tlen hdrop hlenL hbin hlrs hmemL ⊢
      generalize adds rs L.reverse = R at ho hu hk cls tin hlrs hmemL ⊢
      refine ⟨_, rfl, ?_⟩
      -- the key
      refine ⟨fun σ' H' => ∃ (kq : Addr) (y6 y7 y8 : Option V) (tb : List Sm), σ' = [some (.ref ps), some (.ref pk), some (.ref o), some (.ref u), some x, some (.ref kq), y6, y7, y8] ∧ H' kq = some (.tup ((ky R t).map kV)) ∧ PIn R t ∧ tbuild noB (t :: L) = t :: tb ∧ (∀ x ∈ tb, x ∈ R) ∧ tb.length ≤ i ∧ H' o = some (.lst (tb.map (ixV R)).reverse) ∧ H' u = some (.lst (L.reverse.map (ixV R))) ∧ H' pk = some (.dT (kvsOf R)) ∧ But pk H H', ?_, ?_⟩
      · cases it with
        | @lt ax n hX =>
          exact ⟨_, rfl, _, _, rfl, .inr (.inl (.inl hX)), rfl, _, rfl, iteF ⟨ax, _, _, _, tbuild noB L, rfl, hX, True.intro, rfl, tin, tlen, ho, hu, hk, bt⟩⟩
        | @nv ax hX =>
          exact ⟨_, rfl, _, _, rfl, .inr (.inl (.inl hX)), rfl, _, rfl, iteF ⟨ax, _, _, _, tbuild noB L, rfl, hX, True.intro, rfl, tin, tlen, ho, hu, hk, bt⟩⟩
        | @bin ax j l r b c hX hl hr' =>
          obtain ⟨r2, er⟩ := hbin j b c rfl
          have e2 : tbuild noB L = b :: c :: tbuild noB r2 := by
            rw [er, tbuild_standing, tbuild_standing, Sm.turn_none (fun _ => rfl), Sm.turn_none (fun _ => rfl)]
          have e3 : tbuild noB (.bin j b c :: L) = .bin j b c :: tbuild noB r2 := by
            show tstep noB (.bin j b c) (tbuild noB L) = _
            rw [e2]
            rfl
          rw [e2] at ho tin tlen
          refine ⟨_, rfl, _, _, rfl, .inr (.inl (.inl hX)), rfl, _, rfl, iteT ⟨_, rfl, tyL ho, o, _, ixV R b, rfl, rfl, ho, last_rev, ?_⟩⟩
          rw [List.map_cons, drop_rev]
          have hoA : (upd H3 o (.lst ((c :: tbuild noB r2).map (ixV R)).reverse)) o = some (.lst ((c :: tbuild noB r2).map (ixV R)).reverse) := upd_same
          refine ⟨_, rfl, tyL hoA, o, _, ixV R c, rfl, rfl, hoA, last_rev, ?_⟩
          rw [List.map_cons, drop_rev, upd_upd]
          have hoB : (upd H3 o (.lst ((tbuild noB r2).map (ixV R)).reverse)) o = some (.lst ((tbuild noB r2).map (ixV R)).reverse) := upd_same
          have hXB : (upd H3 o (.lst ((tbuild noB r2).map (ixV R)).reverse)) ax = some (.tup [.str j.s, l, r]) := TS.lst ho _ _ hX
          have huB : (upd H3 o (.lst ((tbuild noB r2).map (ixV R)).reverse)) u = some (.lst (L.reverse.map (ixV R))) := by rw [upd_ne nou.symm]; exact hu
          have hkB : (upd H3 o (.lst ((tbuild noB r2).map (ixV R)).reverse)) pk = some (.dT (kvsOf R)) := by rw [upd_ne nopk.symm]; exact hk
          have btB : But pk H (upd H3 o (.lst ((tbuild noB r2).map (ixV R)).reverse)) := bt.newput no
          generalize upd H3 o (.lst ((tbuild noB r2).map (ixV R)).reverse) = H4 at hoB hXB huB hkB btB ⊢
          refine ⟨_, rfl, ax, _, _, _, rfl, rfl, .inl (.inl hXB), at0, _, rfl, _, rfl, sz3, fun q0 nq => ?_⟩
          refine ⟨q0, _, _, _, tbuild noB r2, rfl, upd_same, ⟨tin b List.mem_cons_self, tin c (List.mem_cons_of_mem _ List.mem_cons_self)⟩, e3, fun x hx => tin x (List.mem_cons_of_mem _ (List.mem_cons_of_mem _ hx)), ?_, ?_, ?_, ?_, btB.trans (Same.but (same_new nq) pk)⟩
          · rw [List.length_cons, List.length_cons] at tlen
            omega
          · rw [upd_ne (ne_of_none hoB nq)]
            exact hoB
          · rw [upd_ne (ne_of_none huB nq)]
            exact huB
          · rw [upd_ne (ne_of_none hkB nq)]
            exact hkB
      · rintro σ' H4 ⟨kq, y6, y7, y8, tb, rfl, hkq, pin, etb, tbin, tbl, ho4, hu4, hk4, bt4⟩
        rw [etb]
        have cls' := add_cls cls pin
        refine ⟨fun σ' H' => ∃ (y5 y6 y7 : Option V), σ' = [some (.ref ps), some (.ref pk), some (.ref o), some (.ref u), some x, y5, y6, y7, some (ixV (add R t) t)] ∧ H' o = some (.lst (tb.map (ixV R)).reverse) ∧ H' u = some (.lst (L.reverse.map (ixV R))) ∧ H' pk = some (.dT (kvsOf (add R t))) ∧ But pk H H', ?_, ?_⟩
        · refine ⟨_, rfl, tyDT hk4, _, rfl, _, rfl, pk, _, rfl, hk4, pk, kvsOf R, ky R t, kq, _, rfl, rfl, hk4, hkq, ?_, fun v hv => ?_, fun hn => ?_⟩
          · rw [kvs_len]
            exact small (by omega)
          · rw [val_kvs cls pin] at hv
            by_cases m : t ∈ R
            · rw [if_pos m] at hv
              injection hv with hv
              subst hv
              rw [kvs_same m]
              exact ⟨_, _, _, rfl, ho4, hu4, hk4, bt4⟩
            · rw [if_neg m] at hv
              cases hv
          · rw [val_kvs cls pin] at hn
            by_cases m : t ∈ R
            · rw [if_pos m] at hn
              cases hn
            · have e1 := kvs_add cls pin m
              have e2 : ixV (add R t) t = V.int (((kvsOf R).length : Nat) : Int) := by
                have e : add R t = R ++ [t] := by
                  unfold add
                  rw [if_neg m]
                unfold ixV
                rw [kvs_len, e, idx_self m]
              rw [e2]
              rw [kvs_len] at *
              rw [e1]
              refine ⟨_, _, _, rfl, ?_, ?_, upd_same, bt4.trans But.put⟩
              · rw [upd_ne nopk]
                exact ho4
              · rw [upd_ne nupk]
                exact hu4
        · rintro σ' H5 ⟨y5, y6, y7, rfl, ho5, hu5, hk5, bt5⟩
          refine ⟨_, rfl, tyL ho5, _, rfl, o, _, _, rfl, rfl, ho5, ?_, ?_⟩
          · rw [List.length_reverse, List.length_map]
            exact small (by omega)
          rw [add_rev]
          have hu6 : (upd H5 o (.lst (ixV (add R t) t :: tb.map (ixV R)).reverse)) u = some (.lst (L.reverse.map (ixV R))) := by rw [upd_ne nou.symm]; exact hu5
          refine ⟨_, rfl, tyL hu6, _, rfl, u, _, _, rfl, rfl, hu6, ?_, ?_⟩
          · rw [List.length_map, List.length_reverse]
            exact small (by omega)
          refine ⟨_, _, _, _, _, rfl, ?_, ?_, ?_, cls', ?_, ?_, (bt5.newput no).newput nu0⟩
          · rw [upd_ne nou, upd_same, List.map_cons, ix_map tbin]
          · rw [upd_same, List.map_append, ix_map (fun x hx => hmemL x hx)]
            rfl
          · rw [upd_ne nupk.symm, upd_ne nopk.symm]
            exact hk5
          · intro x hx
            rcases List.mem_cons.mp hx with rfl | hx
            · exact mem_add.mpr (.inr rfl)
            · exact mem_add.mpr (.inl (tbin x hx))
          · rw [List.length_cons]
            omega
    · rintro σ H3 ⟨y4, y5, y6, y7, y8, rfl, ho, hu, hk, cls, tin, tlen, bt⟩
      rw [Nat.sub_self, List.drop_zero] at hu hk cls
      refine ⟨_, rfl, u, _, rfl, SqL.of hu, fun z nz => ?_⟩
      rw [← List.map_reverse, List.reverse_reverse]
      have nzk : z ≠ pk := (ne_of_none hk nz).symm
      exact q _ z (bt.trans (Same.but (same_new nz) pk)) (by rw [upd_ne nzk.symm]; exact hk) cls (bt.free nzk nz) upd_same
/-! ### numbered -/
def szSum (ss : List Sm) : Nat := (ss.map Sm.size).sum
def sp_numbered (K : PySem.W.Frag) : Sp := fun vs H Q _ => ∃ (pl : Addr) (ws : List V) (ss : List Sm), vs = [.ref pl] ∧ H pl = some (.lst ws) ∧ Paired (IsSt H) ws ss ∧ szSum ss ≤ 80000 ∧ (∀ s ∈ ss, s.size ≤ 10000) ∧
  ∀ H' t pr pp bs, Same H H' → H' t = some (.tup [.ref pr, .ref pp]) → H pr = none → H' pr = some (.lst (bs.map V.ref)) → IsKeys H' (kvsOf (rsOf ss)) bs → Cls (rsOf ss) → H pp = none → H' pp = some (.lst (ss.map (ixV (rsOf ss)))) → Q (.ref t) H'
theorem take_snoc {α : Type} {l : List α} {i : Nat} {x : α} (h : l[i]? = some x) : l.take (i + 1) = l.take i ++ [x] := by
  rw [List.take_add_one, h]
  rfl
theorem ix_maps {rs : List Sm} {m : List Sm} : ∀ {l : List Sm}, (∀ x ∈ l, x ∈ rs) → l.map (ixV (adds rs m)) = l.map (ixV rs) := fun {l} h => List.map_congr_left fun x hx => by
  show V.int _ = V.int _
  rw [idx_adds (h x hx)]
theorem ok_numbered (T : Txt w K mg) (c__standing : Cl P w K mg base 1 "_standing" (sp_standing K)) (c__numbers : Cl P w K mg base 1 "_numbers" (sp_numbers K)) : Cl P w K mg base 2 "numbered" (sp_numbered K) := by
  refine T.d_numbered.ok sc_numbered (fun vs H Q E h => ?_) (fun f cdv A outer s H vs Q E hr h => ?_)
  · obtain ⟨pl, ws, ss, rfl, _⟩ := h
    rfl
  · obtain ⟨pl, ws, ss, rfl, hpl, pw, hz, hz1, q⟩ := h
    refine ⟨_, (pss_cons (ps_set (i := 1) sc_numbered.nd rfl (Or.inr rfl) pe_dnewT)
    (pss_cons (ps_setLc (i := 2) (own := [("a", 3)]) rfl sc_numbered.nd rfl rfl (sw_true rfl rfl rfl (by decide +kernel)) (pi_listK (K := K) (pv 0)) (blkOk_by (N := sc_numberedN) (sc := defScope s_numbered) (by decide +kernel)) (fun _ _ _ _ _ => (pg_name (i := 3) sc_numbered.nd rfl (Or.inl rfl))) (fun _ _ _ _ _ => pts_nil) (fun _ _ _ _ _ => (pe_ix (r := rIxL K) ix_list (pe_k c__numbers hr (by omega) rfl (pa_cons (pe_k c__standing hr (by omega) rfl (pa_cons (pv 3) pa_nil)) (pa_cons (pv 1) pa_nil))) pe_int (fun _ _ => rfl))))
    (pss_one (ps_ret (pe_tup (pa_cons (pe_callTy (call_list_dT rfl) rfl T.n_list (by decide +kernel) (pa_cons (pv 1) pa_nil)) (pa_cons (pv 2) pa_nil))))))), ?_⟩
    refine fun pk nk => ⟨_, rfl, pl, rfl, ⟨ws, SqL.of (same_new nk _ _ hpl)⟩, fun D nD => ?_⟩
    have s1 : Same H (upd H pk (.dT [])) := same_new nk
    have nDk : D ≠ pk := (ne_of_none upd_same nD).symm
    have nD0 : H D = none := s1.free nD
    have nkl : pk ≠ pl := (ne_of_none hpl nk).symm
    refine lc_list (K := K) (a := pl) (xs := ws) (fun i H3 => H3 D = some (.lst ((ss.take i).map (ixV (rsOf (ss.take i))))) ∧ H3 pk = some (.dT (kvsOf (rsOf (ss.take i)))) ∧ Cls (rsOf (ss.take i)) ∧ (rsOf (ss.take i)).length ≤ szSum (ss.take i) ∧ Same H H3) ?_ ?_ ?_ ?_
    · refine ⟨upd_same, ?_, ⟨List.nodup_nil, fun i w a b h => by simp [rsOf] at h⟩, Nat.zero_le _, s1.trans (same_new nD)⟩
      rw [upd_ne nDk.symm]
      exact upd_same
    · rintro i H3 _ ⟨_, _, _, _, s3⟩
      exact SqL.of (s3 _ _ hpl)
    · rintro i x H3 hx ⟨hD, hk, cls, hl, s3⟩
      obtain ⟨a, ha, ia⟩ := pair_get pw hx
      have hsz : szSum (ss.take i) + a.size ≤ 80000 := by
        have e : szSum (ss.take (i + 1)) = szSum (ss.take i) + a.size := by
          unfold szSum
          rw [take_snoc ha, List.map_append, List.sum_append]
          simp
        have e2 : szSum (ss.take (i + 1)) ≤ szSum ss := by
          have h := List.take_append_drop (i + 1) ss
          have : szSum ss = szSum (ss.take (i + 1)) + szSum (ss.drop (i + 1)) := by
            unfold szSum
            rw [← List.sum_append, ← List.map_append, h]
          omega
        omega
      have ha1 := hz1 a (List.mem_of_getElem? ha)
      have iaS : IsSt H3 x a := ia.ts (Same.ts s3)
      refine ⟨rfl, _, rfl, x, a, rfl, iaS, ha1, fun p H4 ws4 s4 np4 e4 pw4 => ?_⟩
      have hk4 := s4 _ _ hk
      refine ⟨_, rfl, p, pk, ws4, a, rsOf (ss.take i), rfl, e4, pair_map (fun _ _ h => IsSt.ts (Same.ts s4) h) pw4, hk4, cls, by omega, fun H5 p5 b5 hk5 cls5 np5 e5 => ?_⟩
      refine ⟨p5, _, _, _, rfl, rfl, SqL.of e5, at_first _ a, ?_⟩
      have hD5 := b5 _ _ nDk (s4 _ _ hD)
      have hnotk : H pk = none := nk
      refine ⟨_, hD5, ?_, ?_, ?_, ?_, ?_, ?_⟩
      · rw [List.length_map, List.length_take]
        have := pair_len pw
        have hlen : ss.length ≤ szSum ss := by
          have : ∀ l : List Sm, l.length ≤ szSum l := fun l => by
            induction l with
            | nil => exact Nat.le_refl _
            | cons z r ih =>
              show r.length + 1 ≤ z.size + szSum r
              have := z.size_pos
              omega
          exact this ss
        exact small (by omega)
      · rw [upd_same, take_snoc ha, rsOf_snoc, List.map_append, ix_maps (fun x hx => mem_rsOf.mpr ⟨x, hx, self_standing x⟩)]
        rfl
      · rw [upd_ne nDk.symm, take_snoc ha, rsOf_snoc]
        exact hk5
      · rw [take_snoc ha, rsOf_snoc]
        exact cls5
      · rw [take_snoc ha, rsOf_snoc]
        have h1 := len_adds a.standing.reverse (rsOf (ss.take i))
        rw [List.length_reverse, a.len_standing] at h1
        have e : szSum (ss.take i ++ [a]) = szSum (ss.take i) + a.size := by
          unfold szSum
          rw [List.map_append, List.sum_append]
          simp
        omega
      · exact same_put (b5.same0 (s3.trans s4) nk) nD0
    · rintro H3 ⟨hD, hk, cls, hl, s3⟩
      have e : ws.length = ss.length := pair_len pw
      rw [e, List.take_length] at hD hk cls
      refine ⟨_, rfl, pk, _, rfl, .inl hk, fun p bs np ik => ⟨_, rfl, sz2, fun t nt => ?_⟩⟩
      have s4 : Same H3 (upd H3 p (.lst (bs.map V.ref))) := same_new np
      have s5 := s4.trans (same_new (o := .tup [.ref p, .ref D]) nt)
      refine q _ t p D bs (s3.trans s5) upd_same (s3.free np) ?_ (pair_map (fun _ _ h => (Same.ts s5) _ _ h) ik) cls nD0 (s5 _ _ hD)
      rw [upd_ne (ne_of_none upd_same nt)]
      exact upd_same
/-! ### rows_of -/
def sp_rows_of (K : PySem.W.Frag) : Sp := fun vs H Q _ => ∃ (pl : Addr) (ws : List V) (ss : List Sm), vs = [.ref pl] ∧ H pl = some (.lst ws) ∧ Paired (IsSt H) ws ss ∧ szSum ss ≤ 80000 ∧ (∀ s ∈ ss, s.size ≤ 10000) ∧
  ∀ H' pr bs, Same H H' → H pr = none → H' pr = some (.lst (bs.map V.ref)) → IsKeys H' (kvsOf (rsOf ss)) bs → Cls (rsOf ss) → Q (.ref pr) H'
theorem ok_rows_of (T : Txt w K mg) (c_numbered : Cl P w K mg base 2 "numbered" (sp_numbered K)) : Cl P w K mg base 3 "rows_of" (sp_rows_of K) := by
  refine T.d_rows_of.ok sc_rows_of (fun vs H Q E h => ?_) (fun f cdv A outer s H vs Q E hr h => ?_)
  · obtain ⟨pl, ws, ss, rfl, _⟩ := h
    rfl
  · obtain ⟨pl, ws, ss, rfl, hpl, pw, hz, hz1, q⟩ := h
    refine ⟨_, (pss_one (ps_ret (pe_ix (r := rIxT K) ix_tup (pe_k c_numbered hr (by omega) rfl (pa_cons (pv 0) pa_nil)) pe_int (fun _ _ => rfl)))), ?_⟩
    exact ⟨_, rfl, pl, ws, ss, rfl, hpl, pw, hz, hz1, fun H1 t pr pp bs s1 et npr epr ik cls npp epp => ⟨t, _, _, _, rfl, rfl, SqT.of et, at0, q H1 pr bs s1 npr epr ik cls⟩⟩
/-! ### _ups -/
def sp_ups (K : PySem.W.Frag) : Sp := fun vs H Q _ => ∃ (p : Addr) (g : Gr), vs = [.ref p] ∧ IsGr (fun _ => True) H p g ∧ g.ok ∧ g.length ≤ 90000 ∧ ∀ H' l (ms : List Nat), Same H H' → H l = none → H' l = some (.lst (ms.map fun m => V.int (m : Nat))) → ms.length = g.length → (∀ (k m : Nat), ms[k]? = some m → Msk (Rch g k) m) → Q (.ref l) H'
theorem flat_rep (n : Nat) : (List.replicate n [V.int 0]).flatten = (List.replicate n 0).map fun m : Nat => V.int (m : Nat) := by
  induction n with
  | zero => rfl
  | succ n ih => rw [List.replicate_succ, List.flatten_cons, ih, List.replicate_succ, List.map_cons]; rfl
theorem set_map_int (ms : List Nat) (j m : Nat) : (ms.map fun m : Nat => V.int (m : Nat)).set j (.int (m : Nat)) = (ms.set j m).map fun m : Nat => V.int (m : Nat) := by rw [List.map_set]
theorem ok_ups (T : Txt w K mg) : Cl P w K mg base 1 "_ups" (sp_ups K) := by
  refine T.d_ups.ok sc_ups (fun vs H Q E h => ?_) (fun f cdv A outer s H vs Q E hr h => ?_)
  · obtain ⟨p, g, rfl, _⟩ := h
    rfl
  · obtain ⟨p, g, rfl, ⟨⟨ws, hp, pw⟩, _⟩, ok, hl, q⟩ := h
    refine ⟨_, (pss_cons (ps_set (i := 1) sc_ups.nd rfl (Or.inl rfl) (pe_op op_rep (pe_lst (pa_cons pe_int pa_nil)) (pe_callB (r := rLenK K) call_len_seq rfl T.n_len (by decide +kernel) (pa_cons (pv 0) pa_nil))))
    (pss_cons (ps_for PassesOwn.never rfl (pi_range3 rfl T.n_range (pa_cons (pe_op op_sub (pe_callB (r := rLenK K) call_len_seq rfl T.n_len (by decide +kernel) (pa_cons (pv 0) pa_nil)) pe_int) (pa_cons (pe_un un_neg pe_int) (pa_cons (pe_un un_neg pe_int) pa_nil)))) (pg_name (i := 2) sc_ups.nd rfl (Or.inl rfl))
      (pss_cons (ps_set (i := 3) sc_ups.nd rfl (Or.inl rfl) (pe_op op_shl pe_int (pv 2)))
        (pss_cons (ps_for PassesOwn.never rfl (pi_listK (K := K) (pe_ix (r := rIxT K) ix_tup (pe_ix (r := rIxL K) ix_list (pv 0) (pv 2) (fun _ _ => rfl)) pe_int (fun _ _ => rfl))) (pg_name (i := 4) sc_ups.nd rfl (Or.inl rfl))
          (pss_one (ps_set (i := 3) sc_ups.nd rfl (Or.inl rfl) (pe_op op_or (pv 3) (pe_ix (r := rIxL K) ix_list (pv 1) (pv 4) (fun _ _ => rfl))))))
        (pss_one (ps_asg (pv 3) (pg_sub (pv 1) (pv 2) set_list))))))
    (pss_one (ps_ret (pv 1))))), ?_⟩
    have wl : ws.length = g.length := pair_len pw
    refine ⟨sz1, fun a0 na => ⟨_, rfl, p, ws, rfl, .inl (SqL.of (same_new na _ _ hp)), a0, _, _, rfl, rfl, upd_same, by omega, by omega, ?_, fun u nu => ?_⟩⟩
    · show 1 * _ ≤ sizeLine
      rw [Int.toNat_natCast, Nat.one_mul]
      exact small' (by omega)
    rw [Int.toNat_natCast, flat_rep]
    have s1 : Same H (upd H a0 (.lst [.int 0])) := same_new na
    have s2 : Same H (upd (upd H a0 (.lst [.int 0])) u (.lst ((List.replicate ws.length 0).map fun m : Nat => V.int (m : Nat)))) := s1.trans (same_new nu)
    have nu0 : H u = none := s1.free nu
    have hu : (upd (upd H a0 (.lst [.int 0])) u (.lst ((List.replicate ws.length 0).map fun m : Nat => V.int (m : Nat)))) u = some (.lst ((List.replicate ws.length 0).map fun m : Nat => V.int (m : Nat))) := upd_same
    generalize upd (upd H a0 (.lst [.int 0])) u (.lst ((List.replicate ws.length 0).map fun m : Nat => V.int (m : Nat))) = H1 at s2 hu ⊢
    refine ⟨_, rfl, p, ws, rfl, .inl (SqL.of (s2 _ _ hp)), _, _, rfl, rfl, _, rfl, _, rfl, _, _, _, _, rfl, RgC.neg (by omega) (by omega) (by decide) (by decide), ?_⟩
    have en : ((ws.length : Int) - 1 - -1).toNat = g.length := by omega
    rw [en]
    refine for_rangeC (lo := (ws.length : Int) - 1) (c := -1) (n := g.length) (fun i σ H3 => ∃ (ms : List Nat) (y2 y3 y4 : Option V), σ = [some (.ref p), some (.ref u), y2, y3, y4] ∧ H3 u = some (.lst (ms.map fun m => V.int (m : Nat))) ∧ ms.length = g.length ∧ (∀ (k m : Nat), g.length - i ≤ k → ms[k]? = some m → Msk (Rch g k) m) ∧ Same H H3) ?_ ?_ ?_
    · refine ⟨List.replicate ws.length 0, _, _, _, rfl, hu, by rw [List.length_replicate, wl], fun k m h1 h2 => ?_, s2⟩
      rw [Nat.sub_zero] at h1
      have := (List.getElem?_eq_some_iff.mp h2).1
      rw [List.length_replicate] at this
      omega
    · rintro i σ H3 hi ⟨ms, y2, y3, y4, rfl, hu3, ml, hm, s3⟩
      have ek : (ws.length : Int) - 1 + (i : Nat) * -1 = ((g.length - 1 - i : Nat) : Int) := by omega
      rw [ek]
      have hk1 : g.length - (i + 1) = g.length - 1 - i := by omega
      have hk2 : g.length - i = g.length - 1 - i + 1 := by omega
      have hk3 : g.length - 1 - i < g.length := by omega
      rw [hk2] at hm
      generalize g.length - 1 - i = k at hk1 hk3 hm ⊢
      obtain ⟨sd, hsd⟩ : ∃ sd, g[k]? = some sd := ⟨g[k], List.getElem?_eq_getElem hk3⟩
      obtain ⟨x, hx, t, pn, pu, rfl, ht, hpn, hpu, _, _⟩ := pair_at pw hsd
      refine ⟨_, rfl, _, _, rfl, rfl, ⟨by omega, by omega, by decide⟩, ?_⟩
      refine ⟨_, rfl, _, rfl, p, ws, _, _, rfl, rfl, SqL.of (s3 _ _ hp), atI_nat hx, t, _, _, _, rfl, rfl, .inl (.inl (s3 _ _ ht)), at1, pu, rfl, ⟨_, SqL.of (s3 _ _ hpu)⟩, ?_⟩
      refine for_list (K := K) (a := pu) (xs := sd.2.map fun u => V.int (u : Nat)) (fun j σ H4 => ∃ (m : Nat) (y4 : Option V), σ = [some (.ref p), some (.ref u), some (.int (k : Nat)), some (.int m), y4] ∧ Msk (fun x => x = k ∨ ∃ v ∈ sd.2.take j, Rch g v x) m ∧ H4 = H3) ?_ ?_ ?_ ?_
      · refine ⟨2 ^ k, y4, ?_, (Msk.one k).iff fun j => by simp, rfl⟩
        show [some (V.ref p), some (V.ref u), some (V.int k), some (V.int (1 * 2 ^ k)), y4] = _
        rw [b_shl]
      · rintro j σ H4 _ ⟨_, _, _, _, rfl⟩
        exact SqL.of (s3 _ _ hpu)
      · rintro j x σ H4 hxj ⟨m, y4, rfl, hmj, rfl⟩
        rw [List.getElem?_map] at hxj
        obtain ⟨v, hv, rfl⟩ := Option.map_eq_some_iff.mp hxj
        have okv := ok k sd hsd v (List.mem_of_getElem? hv)
        have hv2 : v < ms.length := by omega
        refine ⟨_, rfl, _, rfl, _, rfl, u, _, _, _, rfl, rfl, SqL.of hu3, atI_nat (v := .int ((ms[v] : Nat) : Int)) ?_, _, _, rfl, rfl, ?_⟩
        · rw [List.getElem?_map, List.getElem?_eq_getElem hv2]
          rfl
        · refine ⟨m ||| ms[v], some (.int (v : Nat)), ?_, ?_, rfl⟩
          · show [some (V.ref p), some (V.ref u), some (V.int k), some (V.int (Builtin.bitOr m (ms[v] : Nat))), some (V.int (v : Nat))] = _
            rw [b_or]
          have hmv := hm v ms[v] (by omega) (List.getElem?_eq_getElem hv2)
          refine (hmj.or hmv).iff fun x => ?_
          rw [List.take_add_one, hv]
          constructor
          · rintro ((h | ⟨z, h1, h2⟩) | h)
            · exact .inl h
            · exact .inr ⟨z, List.mem_append_left _ h1, h2⟩
            · exact .inr ⟨v, List.mem_append_right _ (by simp), h⟩
          · rintro (h | ⟨z, h1, h2⟩)
            · exact .inl (.inl h)
            · rcases List.mem_append.mp h1 with h1 | h1
              · exact .inl (.inr ⟨z, h1, h2⟩)
              · have e : z = v := by simpa using h1
                rw [e] at h2
                exact .inr h2
      · rintro σ H4 ⟨m, y4, rfl, hmj, rfl⟩
        rw [List.length_map, List.take_length] at hmj
        have hkm : k < ms.length := by omega
        refine ⟨_, rfl, _, rfl, _, rfl, u, _, _, k, rfl, rfl, hu3, ?_, ?_⟩
        · unfold ixN
          rw [List.length_map, if_pos (by omega), if_pos (by omega), Int.toNat_natCast]
        · rw [set_map_int]
          refine ⟨ms.set k m, _, _, _, rfl, upd_same, by rw [List.length_set]; exact ml, fun k' m' h1 h2 => ?_, same_put s3 nu0⟩
          rw [hk1] at h1
          by_cases e : k' = k
          · subst e
            rw [List.getElem?_set_self hkm] at h2
            injection h2 with h2
            subst h2
            exact hmj.iff fun x => (rch_iff hsd).symm
          · rw [List.getElem?_set_ne (fun z => e z.symm)] at h2
            exact hm k' m' (by omega) h2
    · rintro σ H3 ⟨ms, y2, y3, y4, rfl, hu3, ml, hm, s3⟩
      refine ⟨_, rfl, q H3 u ms s3 nu0 hu3 ml fun k m h => hm k m (by omega) h⟩
/-! ### _with_letter -/
def sp_with_letter (K : PySem.W.Frag) : Sp := fun vs H Q _ => ∃ (p : Addr) (g : Gr) (n : List Nat), vs = [.ref p, .str (S n)] ∧ IsGr (fun _ => True) H p g ∧ g.length ≤ 90000 ∧ ∀ H' (m : Nat), Same H H' → Msk (Hd g (.lt n)) m → Q (.int m) H'
/-- the numbers below i with c -/
def sel (c : Nat → Bool) (i : Nat) : List Nat := (List.range i).filter c
theorem sel_succ (c : Nat → Bool) (i : Nat) : sel c (i + 1) = if c i = true then sel c i ++ [i] else sel c i := by
  unfold sel
  rw [List.range_succ, List.filter_append]
  cases e : c i with
  | true => rw [if_pos rfl]; simp [e]
  | false => rw [if_neg (fun z => nomatch z)]; simp [e]
theorem mem_sel {c : Nat → Bool} {i j : Nat} : j ∈ sel c i ↔ j < i ∧ c j = true := by
  unfold sel
  rw [List.mem_filter, List.mem_range]
theorem len_sel (c : Nat → Bool) (i : Nat) : (sel c i).length ≤ i := by
  unfold sel
  have := List.length_filter_le c (List.range i)
  rw [List.length_range] at this
  exact this
theorem ok_with_letter (T : Txt w K mg) (c_together : Cl P w K mg base 1 "together" (sp_together K)) : Cl P w K mg base 2 "_with_letter" (sp_with_letter K) := by
  refine T.d_with_letter.ok sc_with_letter (fun vs H Q E h => ?_) (fun f cdv A outer s H vs Q E hr h => ?_)
  · obtain ⟨p, g, n, rfl, _⟩ := h
    rfl
  · obtain ⟨p, g, n, rfl, ⟨⟨ws, hp, pw⟩, _⟩, hl, q⟩ := h
    refine ⟨_, (pss_one (ps_ret (pe_k c_together hr (by omega) rfl (pa_cons (pe_lc (own := [("k", 2), ("names", 3), ("_", 4)]) rfl sc_with_letter.nd (pi_enum rfl T.n_enumerate (pa_cons (pv 0) pa_nil)) (blkOk_by (N := sc_with_letterN) (sc := defScope s_with_letter) (by decide +kernel)) (fun _ _ _ _ _ => (pg_tupK (K := K) (n := 2) rfl (pgs_cons (pg_name (i := 2) sc_with_letter.nd rfl (Or.inl rfl)) (pgs_cons (pg_tupK (K := K) (n := 2) rfl (pgs_cons (pg_name (i := 3) sc_with_letter.nd rfl (Or.inl rfl)) (pgs_cons (pg_name (i := 4) sc_with_letter.nd rfl (Or.inl rfl)) pgs_nil))) pgs_nil)))) (fun _ _ _ _ _ => (pts_one (pt_cmpR (r := rIn K false) op_in_seq (pv 1) (pv 3) (by rfl)))) (fun _ _ _ _ _ => (pv 2))) pa_nil)))), ?_⟩
    have wl : ws.length = g.length := pair_len pw
    refine ⟨_, rfl, p, ws, rfl, SqL.of hp, fun D nD => ?_⟩
    let c : Nat → Bool := fun k => match g[k]? with
      | some s => decide (n ∈ s.1)
      | none => false
    refine lc_it (walk_enum (K := K) (a := p) (xs := ws)) (fun i H3 => H3 D = some (.lst ((sel c i).map fun k => V.int (k : Nat))) ∧ Same H H3) ?_ ?_ ?_ ?_
    · exact ⟨upd_same, same_new nD⟩
    · rintro i H3 _ ⟨_, s3⟩
      exact SqL.of (s3 _ _ hp)
    · rintro i x H3 H4 hi ⟨hD, s3⟩ ⟨t, x0, y0, rfl, nt, rfl, hx0, hy0⟩
      have e0 := Option.some.inj hx0
      subst e0
      obtain ⟨sd, hsd, t2, pn, pu, rfl, ht2, hpn, hpu, _, _⟩ := pair_get pw hy0
      have s4 : Same H (upd H3 t (.tup [.int (i : Nat), .ref t2])) := s3.trans (same_new nt)
      have hci : c i = decide (n ∈ sd.1) := by
        show (match g[i]? with
          | some s => decide (n ∈ s.1)
          | none => false) = _
        rw [hsd]
      refine ⟨t, _, rfl, .inl (.inl upd_same), rfl, _, _, rfl, _, _, rfl, t2, _, rfl, .inl (.inl (s4 _ _ ht2)), rfl, _, _, rfl, _, _, rfl, rfl, rfl, rfl, _, rfl, _, rfl, pn, _, rfl, .inl (SqL.of (s4 _ _ hpn)), rfl, flat_nm _, _, rfl, ?_⟩
      have hD4 : (upd H3 t (.tup [.int (i : Nat), .ref t2])) D = some (.lst ((sel c i).map fun k => V.int (k : Nat))) := by
        rw [upd_ne (ne_of_none hD nt)]
        exact hD
      have e2 : (if false = true then !inV (.str (S n)) (sd.1.map fun n => V.str (S n)) else inV (.str (S n)) (sd.1.map fun n => V.str (S n))) = c i := by
        rw [if_neg (fun z => nomatch z), inV_nm, hci]
      rw [e2]
      cases ec : c i with
      | true =>
        refine iteT ⟨_, rfl, _, hD4, ?_, ?_, same_put s4 nD⟩
        · rw [List.length_map]
          have := len_sel c i
          exact small (by omega)
        · rw [upd_same, sel_succ, if_pos ec, List.map_append]
          rfl
      | false =>
        refine iteF ⟨?_, s4⟩
        rw [hD4, sel_succ, ec, if_neg (fun z => nomatch z)]
    · rintro H3 ⟨hD, s3⟩
      refine ⟨D, _, rfl, hD, fun k hk => ?_, fun m hm => q H3 m s3 (hm.iff fun j => ?_)⟩
      · have := (mem_sel.mp hk).1
        omega
      · rw [mem_sel]
        constructor
        · rintro ⟨h1, h2⟩
          obtain ⟨sd, hsd⟩ : ∃ sd, g[j]? = some sd := ⟨g[j], List.getElem?_eq_getElem (by omega)⟩
          have h3 : (match g[j]? with
            | some s => decide (n ∈ s.1)
            | none => false) = true := h2
          rw [hsd] at h3
          exact ⟨sd, hsd, of_decide_eq_true h3⟩
        · rintro ⟨sd, hsd, h2⟩
          have := (List.getElem?_eq_some_iff.mp hsd).1
          refine ⟨by omega, ?_⟩
          show (match g[j]? with
            | some s => decide (n ∈ s.1)
            | none => false) = true
          rw [hsd]
          exact decide_eq_true h2
/-! ### _with_joint -/
def sp_with_joint (K : PySem.W.Frag) : Sp := fun vs H Q _ => ∃ (p : Addr) (g : Gr) (us : List Nat) (w : J) (a b : Sm) (l r : Nat), vs = [.ref p, .str w.s, .int l, .int r] ∧ g.ok ∧ H p = some (.lst (us.map fun m => V.int (m : Nat))) ∧ us.length = g.length ∧ (∀ (k m : Nat), us[k]? = some m → Msk (Rch g k) m) ∧ g.length ≤ 90000 ∧ Msk (fun k => k < g.length ∧ Hd g a k) l ∧ Msk (fun k => k < g.length ∧ Hd g b k) r ∧
  ∀ H' (m : Nat), Same H H' → Msk (fun k => k < g.length ∧ Hd g (.bin w a b) k) m → Q (.int m) H'
theorem ok_with_joint (T : Txt w K mg) (c_together : Cl P w K mg base 1 "together" (sp_together K)) : Cl P w K mg base 2 "_with_joint" (sp_with_joint K) := by
  refine T.d_with_joint.ok sc_with_joint (fun vs H Q E h => ?_) (fun f cdv A outer s H vs Q E hr h => ?_)
  · obtain ⟨p, g, us, w, a, b, l, r, rfl, _⟩ := h
    rfl
  · obtain ⟨p, g, us, w, a, b, l, r, rfl, ok, hp, ul, hu, hl, ml, mr, q⟩ := h
    refine ⟨_, (pss_cons (ps_if (pt_cmpR op_eq (pv 1) pe_str (nomark _))
      (pss_one (ps_ret (pe_op op_and (pv 2) (pv 3))))
      pss_nil)
    (pss_cons (ps_if (pt_cmpR op_eq (pv 1) pe_str (nomark _))
      (pss_one (ps_ret (pe_op op_or (pv 2) (pv 3))))
      pss_nil)
    (pss_cons (ps_set (i := 4) sc_with_joint.nd rfl (Or.inr rfl) (pe_op op_and (pv 2) (pe_un un_inv (pv 3))))
    (pss_one (ps_ret (pe_k c_together hr (by omega) rfl (pa_cons (pe_lc (own := [("k", 5), ("up", 6)]) rfl sc_with_joint.nd (pi_enum rfl T.n_enumerate (pa_cons (pv 0) pa_nil)) (blkOk_by (N := sc_with_jointN) (sc := defScope s_with_joint) (by decide +kernel)) (fun _ _ _ _ _ => (pg_tupK (K := K) (n := 2) rfl (pgs_cons (pg_name (i := 5) sc_with_joint.nd rfl (Or.inl rfl)) (pgs_cons (pg_name (i := 6) sc_with_joint.nd rfl (Or.inl rfl)) pgs_nil)))) (fun _ _ _ _ _ => (pts_one (pt_cmpR op_eq (pe_op op_and (pv 6) (pv 4)) pe_int (nomark _)))) (fun _ _ _ _ _ => (pv 5))) pa_nil))))))), ?_⟩
    cases w with
    | and =>
      refine ⟨_, rfl, rfl, _, rfl, iteT ⟨_, rfl, _, rfl, _, _, rfl, rfl, ?_⟩⟩
      show Q (.int (Builtin.bitAnd l r)) H
      rw [b_and]
      exact q H _ (Same.refl _) ((ml.and mr).iff fun k => ⟨fun h => ⟨h.1.1, h.1.2, h.2.2⟩, fun h => ⟨⟨h.1, h.2.1⟩, h.1, h.2.2⟩⟩)
    | or =>
      refine ⟨_, rfl, rfl, _, rfl, iteF ⟨_, rfl, rfl, _, rfl, iteT ⟨_, rfl, _, rfl, _, _, rfl, rfl, ?_⟩⟩⟩
      show Q (.int (Builtin.bitOr l r)) H
      rw [b_or]
      refine q H _ (Same.refl _) ((ml.or mr).iff fun k => ⟨fun h => ?_, fun h => ?_⟩)
      · rcases h with h | h
        · exact ⟨h.1, .inl h.2⟩
        · exact ⟨h.1, .inr h.2⟩
      · rcases h with ⟨h1, h2 | h2⟩
        · exact .inl ⟨h1, h2⟩
        · exact .inr ⟨h1, h2⟩
    | thn =>
      refine ⟨_, rfl, rfl, _, rfl, iteF ⟨_, rfl, rfl, _, rfl, iteF ⟨_, rfl, _, rfl, _, rfl, _, _, rfl, rfl, ?_⟩⟩⟩
      show gName 4 (.int (Builtin.bitAnd l (Builtin.bitNot r))) _ H _
      rw [b_bar]
      have mb := ml.bar mr
      generalize l ^^^ (l &&& r) = bar at mb ⊢
      refine ⟨_, rfl, p, _, rfl, SqL.of hp, fun D nD => ?_⟩
      let c : Nat → Bool := fun k => match us[k]? with
        | some m => decide (m &&& bar = 0)
        | none => false
      refine lc_it (walk_enum (K := K) (a := p) (xs := us.map fun m => V.int (m : Nat))) (fun i H3 => H3 D = some (.lst ((sel c i).map fun k => V.int (k : Nat))) ∧ Same H H3) ?_ ?_ ?_ ?_
      · exact ⟨upd_same, same_new nD⟩
      · rintro i H3 _ ⟨_, s3⟩
        exact SqL.of (s3 _ _ hp)
      · rintro i x H3 H4 hi ⟨hD, s3⟩ ⟨t, x0, y0, rfl, nt, rfl, hx0, hy0⟩
        have e0 := Option.some.inj hx0
        subst e0
        have hy1 : (us.map fun m => V.int (m : Nat))[i]? = some y0 := hy0
        rw [List.getElem?_map] at hy1
        obtain ⟨m, hm, rfl⟩ := Option.map_eq_some_iff.mp hy1
        have s4 : Same H (upd H3 t (.tup [.int (i : Nat), .int (m : Nat)])) := s3.trans (same_new nt)
        have hci : c i = decide (m &&& bar = 0) := by
          show (match us[i]? with
            | some m => decide (m &&& bar = 0)
            | none => false) = _
          rw [hm]
        have hil : i < us.length := (List.getElem?_eq_some_iff.mp hm).1
        refine ⟨t, _, rfl, .inl (.inl upd_same), rfl, _, _, rfl, _, _, rfl, rfl, rfl, _, rfl, _, rfl, _, _, rfl, rfl, rfl, _, rfl, ?_⟩
        have hD4 : (upd H3 t (.tup [.int (i : Nat), .int (m : Nat)])) D = some (.lst ((sel c i).map fun k => V.int (k : Nat))) := by
          rw [upd_ne (ne_of_none hD nt)]
          exact hD
        have e2 : decide (V.int (Builtin.bitAnd (m : Nat) (bar : Nat)) = V.int 0) = c i := by
          rw [b_and, hci, decide_eq_decide]
          constructor
          · intro h
            have := V.int.inj h
            omega
          · intro h
            rw [h]
            rfl
        show if decide (V.int (Builtin.bitAnd (m : Nat) (bar : Nat)) = V.int 0) = true then _ else _
        rw [e2]
        cases ec : c i with
        | true =>
          refine iteT ⟨_, rfl, _, hD4, ?_, ?_, same_put s4 nD⟩
          · rw [List.length_map]
            have := len_sel c i
            exact small (by omega)
          · rw [upd_same, sel_succ, if_pos ec, List.map_append]
            rfl
        | false =>
          refine iteF ⟨?_, s4⟩
          rw [hD4, sel_succ, ec, if_neg (fun z => nomatch z)]
      · rintro H3 ⟨hD, s3⟩
        rw [List.length_map] at hD
        refine ⟨D, _, rfl, hD, fun k hk => ?_, fun m hm => q H3 m s3 (hm.iff fun j => ?_)⟩
        · have := (mem_sel.mp hk).1
          omega
        · rw [mem_sel, ul]
          have key : ∀ mj, us[j]? = some mj → (mj &&& bar = 0 ↔ Hd g (.bin .thn a b) j) := fun mj hj => by
            have hjl : j < g.length := by
              have := (List.getElem?_eq_some_iff.mp hj).1
              omega
            rw [((hu j mj hj).and mb).none]
            constructor
            · intro h x rx hx
              by_cases hb : Hd g b x
              · exact hb
              · exact absurd ⟨rx, ⟨rx.lt ok hjl, hx⟩, fun z => hb z.2⟩ (h x)
            · rintro h x ⟨rx, ⟨h1, h2⟩, h3⟩
              exact h3 ⟨h1, h x rx h2⟩
          constructor
          · rintro ⟨h1, h2⟩
            refine ⟨h1, ?_⟩
            obtain ⟨mj, hj⟩ : ∃ mj, us[j]? = some mj := ⟨us[j], List.getElem?_eq_getElem (by omega)⟩
            have h3 : (match us[j]? with
              | some m => decide (m &&& bar = 0)
              | none => false) = true := h2
            rw [hj] at h3
            exact (key mj hj).mp (of_decide_eq_true h3)
          · rintro ⟨h1, h2⟩
            refine ⟨h1, ?_⟩
            obtain ⟨mj, hj⟩ : ∃ mj, us[j]? = some mj := ⟨us[j], List.getElem?_eq_getElem (by omega)⟩
            show (match us[j]? with
              | some m => decide (m &&& bar = 0)
              | none => false) = true
            rw [hj]
            exact decide_eq_true ((key mj hj).mpr h2)
/-! ### where -/
def sp_where (K : PySem.W.Frag) : Sp := fun vs H Q _ => ∃ (p pr : Addr) (g : Gr) (rs : List Sm) (bs : List Addr), vs = [.ref p, .ref pr] ∧ IsGr (fun _ => True) H p g ∧ g.ok ∧ g.length ≤ 90000 ∧ H pr = some (.lst (bs.map V.ref)) ∧ IsKeys H (kvsOf rs) bs ∧ Cls rs ∧ rs.length ≤ 90000 ∧
  ∀ H' l (ms : List Nat), Same H H' → H l = none → H' l = some (.lst (ms.map fun m => V.int (m : Nat))) → ms.length = rs.length → (∀ (i : Nat) s (m : Nat), rs[i]? = some s → ms[i]? = some m → Msk (fun k => k < g.length ∧ Hd g s k) m) → Q (.ref l) H'
theorem hd_len {g : Gr} {n : List Nat} {k : Nat} (h : Hd g (.lt n) k) : k < g.length := by
  obtain ⟨s, h1, _⟩ := h
  exact (List.getElem?_eq_some_iff.mp h1).1
theorem ok_where (T : Txt w K mg) (c__ups : Cl P w K mg base 1 "_ups" (sp_ups K)) (c__with_letter : Cl P w K mg base 2 "_with_letter" (sp_with_letter K)) (c__with_joint : Cl P w K mg base 2 "_with_joint" (sp_with_joint K)) : Cl P w K mg base 3 "where" (sp_where K) := by
  refine T.d_where.ok sc_where (fun vs H Q E h => ?_) (fun f cdv A outer s H vs Q E hr h => ?_)
  · obtain ⟨p, pr, g, rs, bs, rfl, _⟩ := h
    rfl
  · obtain ⟨p, pr, g, rs, bs, rfl, hg, ok, hl, hpr, ik, cls, hrl, q⟩ := h
    refine ⟨_, (pss_cons (ps_set (i := 2) sc_where.nd rfl (Or.inl rfl) (pe_k c__ups hr (by omega) rfl (pa_cons (pv 0) pa_nil)))
    (pss_cons (ps_set (i := 3) sc_where.nd rfl (Or.inl rfl) (pe_lst pa_nil))
    (pss_cons (ps_for PassesOwn.never rfl (pi_listK (K := K) (pv 1)) (pg_name (i := 4) sc_where.nd rfl (Or.inl rfl))
      (pss_one (ps_if (pt_cmpR op_eq (pe_ix (r := rIxT K) ix_tup (pv 4) pe_int (fun _ _ => rfl)) pe_str (nomark _))
          (pss_one (ps_expr (pe_bm PySem.F.plainAttrs_list PySem.F.slot_list_append PySem.F.type_list_append mt_append (pv 3) (pa_cons (pe_k c__with_letter hr (by omega) rfl (pa_cons (pv 0) (pa_cons (pe_ix (r := rIxT K) ix_tup (pv 4) pe_int (fun _ _ => rfl)) pa_nil))) pa_nil))))
          (pss_one (ps_if (pt_cmpR op_eq (pe_ix (r := rIxT K) ix_tup (pv 4) pe_int (fun _ _ => rfl)) pe_str (nomark _))
              (pss_one (ps_expr (pe_bm PySem.F.plainAttrs_list PySem.F.slot_list_append PySem.F.type_list_append mt_append (pv 3) (pa_cons pe_int pa_nil))))
              (pss_one (ps_expr (pe_bm PySem.F.plainAttrs_list PySem.F.slot_list_append PySem.F.type_list_append mt_append (pv 3) (pa_cons (pe_k c__with_joint hr (by omega) rfl (pa_cons (pv 2) (pa_cons (pe_ix (r := rIxT K) ix_tup (pv 4) pe_int (fun _ _ => rfl)) (pa_cons (pe_ix (r := rIxL K) ix_list (pv 3) (pe_ix (r := rIxT K) ix_tup (pv 4) pe_int (fun _ _ => rfl)) (fun _ _ => rfl)) (pa_cons (pe_ix (r := rIxL K) ix_list (pv 3) (pe_ix (r := rIxT K) ix_tup (pv 4) pe_int (fun _ _ => rfl)) (fun _ _ => rfl)) pa_nil))))) pa_nil)))))))))
    (pss_one (ps_ret (pv 3)))))), ?_⟩
    refine ⟨_, rfl, p, g, rfl, hg, ok, hl, fun H1 pu us s1 npu epu ul hus => ⟨sz0, fun o no => ?_⟩⟩
    have s2 : Same H (upd H1 o (.lst [])) := s1.trans (same_new no)
    have no0 : H o = none := s1.free no
    have eu2 : (upd H1 o (.lst [])) pu = some (.lst (us.map fun m => V.int (m : Nat))) := same_new no _ _ epu
    have npo : pu ≠ o := ne_of_none epu no
    refine ⟨_, rfl, pr, rfl, ⟨_, SqL.of (s2 _ _ hpr)⟩, for_list (K := K) (a := pr) (xs := bs.map V.ref) (fun i σ H3 => ∃ (ms : List Nat) (y : Option V), σ = [some (.ref p), some (.ref pr), some (.ref pu), some (.ref o), y] ∧ H3 o = some (.lst (ms.map fun m => V.int (m : Nat))) ∧ ms.length = i ∧ (∀ (j : Nat) s (m : Nat), rs[j]? = some s → ms[j]? = some m → Msk (fun k => k < g.length ∧ Hd g s k) m) ∧ Same H H3 ∧ H3 pu = some (.lst (us.map fun m => V.int (m : Nat)))) ?_ ?_ ?_ ?_⟩
    · exact ⟨[], _, rfl, upd_same, rfl, fun j s m _ h => by simp at h, s2, eu2⟩
    · rintro i σ H3 _ ⟨_, _, _, _, _, _, s3, _⟩
      exact SqL.of (s3 _ _ hpr)
    · rintro i x σ H3 hx ⟨ms, y, rfl, ho, ml, hm, s3, eu3⟩
      rw [List.getElem?_map] at hx
      obtain ⟨b, hb, rfl⟩ := Option.map_eq_some_iff.mp hx
      have ilt : i < rs.length := by
        have h1 := (List.getElem?_eq_some_iff.mp hb).1
        have h2 := pair_len ik
        rw [kvs_len] at h2
        omega
      obtain ⟨t, ht⟩ : ∃ t, rs[i]? = some t := ⟨rs[i], List.getElem?_eq_getElem ilt⟩
      have hkv : (kvsOf rs)[i]? = some (ky rs t, .int ((rs.idxOf t : Nat) : Int)) := by
        unfold kvsOf
        rw [List.getElem?_map, ht]
        rfl
      obtain ⟨b', hb', hbt⟩ := pair_get ik hkv
      rw [hb] at hb'
      injection hb' with hb'
      subst hb'
      have hT := s3 _ _ hbt
      have hg3 := hg.same s3
      -- the end of the turn
      have fin : ∀ (H4 : Hp) (m : Nat) (u : Option V), Same H3 H4 → Msk (fun k => k < g.length ∧ Hd g t k) m → ∃ (ms' : List Nat) (y : Option V), [some (V.ref p), some (V.ref pr), some (V.ref pu), some (V.ref o), u] = [some (V.ref p), some (V.ref pr), some (V.ref pu), some (V.ref o), y] ∧ (upd H4 o (.lst (ms.map (fun m => V.int (m : Nat)) ++ [.int m]))) o = some (.lst (ms'.map fun m => V.int (m : Nat))) ∧ ms'.length = i + 1 ∧ (∀ (j : Nat) s (m : Nat), rs[j]? = some s → ms'[j]? = some m → Msk (fun k => k < g.length ∧ Hd g s k) m) ∧ Same H (upd H4 o (.lst (ms.map (fun m => V.int (m : Nat)) ++ [.int m]))) ∧ (upd H4 o (.lst (ms.map (fun m => V.int (m : Nat)) ++ [.int m]))) pu = some (.lst (us.map fun m => V.int (m : Nat))) := fun H4 m u s4 h4 => by
        refine ⟨ms ++ [m], u, rfl, ?_, ?_, fun j s m' hj hm' => ?_, same_put (s3.trans s4) no0, ?_⟩
        · rw [upd_same, List.map_append]
          rfl
        · rw [List.length_append, ml]
          rfl
        · by_cases e : j < ms.length
          · rw [List.getElem?_append_left e] at hm'
            exact hm j s m' hj hm'
          · rw [List.getElem?_append_right (by omega)] at hm'
            have e0 : j - ms.length = 0 := by
              have := (List.getElem?_eq_some_iff.mp hm').1
              simp at this
              omega
            rw [e0] at hm'
            injection hm' with hm'
            subst hm'
            have ej : j = i := by omega
            rw [ej, ht] at hj
            injection hj with hj
            subst hj
            exact h4
        · rw [upd_ne npo]
          exact s4 _ _ eu3
      have lsz : (ms.map fun m => V.int (m : Nat)).length < sizeLine := by
        rw [List.length_map]
        exact small (by omega)
      cases t with
      | lt n =>
        have hT' : H3 b = some (.tup [.str "letter", .str (S n)]) := hT
        refine ⟨_, rfl, b, _, _, _, rfl, rfl, .inl (.inl hT'), at0, rfl, _, rfl, iteT ⟨_, rfl, tyL ho, _, rfl, _, rfl, b, _, _, _, rfl, rfl, .inl (.inl hT'), at1, p, g, n, rfl, hg3, hl, fun H4 m s4 h4 => ⟨o, _, _, rfl, rfl, s4 _ _ ho, lsz, ?_⟩⟩⟩
        exact fin H4 m _ s4 (h4.iff fun k => ⟨fun h => ⟨hd_len h, h⟩, fun h => h.2⟩)
      | nv =>
        have hT' : H3 b = some (.tup [.str "never"]) := hT
        refine ⟨_, rfl, b, _, _, _, rfl, rfl, .inl (.inl hT'), at0, rfl, _, rfl, iteF ⟨_, rfl, b, _, _, _, rfl, rfl, .inl (.inl hT'), at0, rfl, _, rfl, iteT ⟨_, rfl, tyL ho, o, _, _, rfl, rfl, ho, lsz, ?_⟩⟩⟩
        exact fin H3 0 _ (Same.refl _) (Msk.zero.iff fun k => ⟨fun h => h.elim, fun h => h.2⟩)
      | bin w x y =>
        have hT' : H3 b = some (.tup [.str w.s, .int ((rs.idxOf x : Nat) : Int), .int ((rs.idxOf y : Nat) : Int)]) := hT
        have lo := cls.lo i w x y ht
        have px := cls.pin (List.mem_of_getElem? ht)
        have ex : ms[rs.idxOf x]? = some (ms[rs.idxOf x]'(by omega)) := List.getElem?_eq_getElem _
        have ey : ms[rs.idxOf y]? = some (ms[rs.idxOf y]'(by omega)) := List.getElem?_eq_getElem _
        have gx : (ms.map fun m => V.int (m : Nat))[rs.idxOf x]? = some (.int ((ms[rs.idxOf x]'(by omega) : Nat) : Int)) := by
          rw [List.getElem?_map, ex]
          rfl
        have gy : (ms.map fun m => V.int (m : Nat))[rs.idxOf y]? = some (.int ((ms[rs.idxOf y]'(by omega) : Nat) : Int)) := by
          rw [List.getElem?_map, ey]
          rfl
        have w1 : decide (V.str w.s = V.str "letter") = false := by cases w <;> decide
        have w2 : decide (V.str w.s = V.str "never") = false := by cases w <;> decide
        refine ⟨_, rfl, b, _, _, _, rfl, rfl, .inl (.inl hT'), at0, rfl, _, rfl, iteF' w1 ⟨_, rfl, b, _, _, _, rfl, rfl, .inl (.inl hT'), at0, rfl, _, rfl, iteF' w2 ⟨_, rfl, tyL ho, _, rfl, _, rfl, b, _, _, _, rfl, rfl, .inl (.inl hT'), at0, _, rfl, _, rfl, b, _, _, _, rfl, rfl, .inl (.inl hT'), at1, o, _, _, _, rfl, rfl, SqL.of ho, atI_nat gx, _, rfl, _, rfl, b, _, _, _, rfl, rfl, .inl (.inl hT'), at2, o, _, _, _, rfl, rfl, SqL.of ho, atI_nat gy, pu, g, us, w, x, y, _, _, rfl, ok, eu3, ul, hus, hl, hm _ x _ (idx_at px.1) ex, hm _ y _ (idx_at px.2) ey, fun H4 m s4 h4 => ⟨o, _, _, rfl, rfl, s4 _ _ ho, lsz, ?_⟩⟩⟩⟩
        exact fin H4 m _ s4 h4
    · rintro σ H3 ⟨ms, y, rfl, ho, ml, hm, s3, eu3⟩
      refine ⟨_, rfl, q H3 o ms s3 no0 ho ?_ hm⟩
      have h2 := pair_len ik
      rw [kvs_len] at h2
      rw [ml, List.length_map, h2]
/-! ### seen -/
def sp_seen (K : PySem.W.Frag) : Sp := fun vs H Q _ => ∃ (p : Addr) (g : Gr) (v : V) (a : Sm), vs = [.ref p, v] ∧ IsGr (fun _ => True) H p g ∧ g.ok ∧ g.length ≤ 90000 ∧ IsSt H v a ∧ a.size ≤ 10000 ∧
  ∀ H' D (bs : List Bool), Same H H' → H D = none → H' D = some (.lst (bs.map V.bl)) → bs.length = g.length → (∀ (k : Nat) b, bs[k]? = some b → (b = true ↔ Hd g a k)) → Q (.ref D) H'
theorem ok_seen (T : Txt w K mg) (c_has : Cl P w K mg base 1 "has" (sp_has K)) (c_rows_of : Cl P w K mg base 3 "rows_of" (sp_rows_of K)) (c_where : Cl P w K mg base 3 "where" (sp_where K)) : Cl P w K mg base 4 "seen" (sp_seen K) := by
  refine T.d_seen.ok sc_seen (fun vs H Q E h => ?_) (fun f cdv A outer s H vs Q E hr h => ?_)
  · obtain ⟨p, g, v, a, rfl, _⟩ := h
    rfl
  · obtain ⟨p, g, v, a, rfl, hg, ok, hl, ia, hz, q⟩ := h
    refine ⟨_, (pss_cons (ps_set (i := 2) sc_seen.nd rfl (Or.inr rfl) (pe_ix (r := rIxL K) ix_list (pe_k c_where hr (by omega) rfl (pa_cons (pv 0) (pa_cons (pe_k c_rows_of hr (by omega) rfl (pa_cons (pe_lst (pa_cons (pv 1) pa_nil)) pa_nil)) pa_nil))) (pe_un un_neg pe_int) (fun _ _ => rfl)))
    (pss_one (ps_ret (pe_lc (own := [("k", 3)]) rfl sc_seen.nd (pi_range1 rfl T.n_range (pa_cons (pe_callB (r := rLenK K) call_len_seq rfl T.n_len (by decide +kernel) (pa_cons (pv 0) pa_nil)) pa_nil)) (blkOk_by (N := sc_seenN) (sc := defScope s_seen) (by decide +kernel)) (fun _ _ _ _ _ => (pg_name (i := 3) sc_seen.nd rfl (Or.inl rfl))) (fun _ _ _ _ _ => pts_nil) (fun _ _ _ _ _ => (pe_k c_has hr (by omega) rfl (pa_cons (pv 2) (pa_cons (pv 3) pa_nil)))))))), ?_⟩
    refine ⟨_, rfl, _, rfl, sz1, fun l nl => ⟨l, [v], [a], rfl, upd_same, .cons (ia.ts (TS.new nl)) .nil, ?_, fun s hs => by rw [List.mem_singleton.mp hs]; exact hz, fun H1 pr bs s1 npr epr ik cls => ?_⟩⟩
    · show a.size + 0 ≤ 80000
      omega
    have s01 : Same H H1 := (same_new nl).trans s1
    obtain ⟨r, er⟩ := rsOf_one a
    have hlen : (rsOf [a]).length ≤ 90000 := by
      have h1 := len_adds a.standing.reverse []
      rw [List.length_reverse, a.len_standing] at h1
      show (adds [] a.standing.reverse).length ≤ 90000
      have : ([] : List Sm).length = 0 := rfl
      omega
    refine ⟨p, pr, g, _, bs, rfl, hg.same s01, ok, hl, epr, ik, cls, hlen, fun H2 u ms s2 nu eu mlen hm => ?_⟩
    have hml : ms.length = r.length + 1 := by
      rw [mlen, er, List.length_append]
      rfl
    obtain ⟨mi, ml, rfl⟩ : ∃ mi ml, ms = mi ++ [ml] := ⟨ms.dropLast, ms.getLast (fun z => by rw [z] at hml; cases hml), (List.dropLast_concat_getLast _).symm⟩
    have hmi : mi.length = r.length := by
      rw [List.length_append] at hml
      have : [ml].length = 1 := rfl
      omega
    have hmask : Msk (fun k => k < g.length ∧ Hd g a k) ml := hm r.length a ml (by rw [er, List.getElem?_append_right (Nat.le_refl _), Nat.sub_self]; rfl) (by rw [← hmi, List.getElem?_append_right (Nat.le_refl _), Nat.sub_self]; rfl)
    rw [List.map_append] at eu
    have s02 := s01.trans s2
    refine ⟨_, rfl, u, _, _, _, rfl, rfl, SqL.of eu, atI_last _ _, ?_⟩
    obtain ⟨⟨ws, hp, pw⟩, _⟩ := hg
    have wl : ws.length = g.length := pair_len pw
    refine ⟨_, rfl, p, ws, rfl, .inl (SqL.of (s02 _ _ hp)), _, rfl, by omega, by omega, fun D nD => ?_⟩
    have nD0 : H D = none := s02.free nD
    refine lc_range (lo := 0) (n := ws.length) (fun i H3 => H3 D = some (.lst (((List.range i).map fun k => ml.testBit k).map V.bl)) ∧ Same H H3) ?_ ?_ ?_
    · exact ⟨upd_same, s02.trans (same_new nD)⟩
    · rintro i H3 hi ⟨hD, s3⟩
      refine ⟨rfl, _, rfl, _, rfl, ml, i, ?_, _, hD, ?_, ?_, same_put s3 nD0⟩
      · show [V.int (ml : Nat), V.int (0 + (i : Nat))] = _
        rw [Int.zero_add]
      · rw [List.length_map, List.length_map, List.length_range]
        exact small (by omega)
      · rw [upd_same, List.range_succ, List.map_append, List.map_append]
        rfl
    · rintro H3 ⟨hD, s3⟩
      refine q H3 D _ s3 nD0 hD (by rw [List.length_map, List.length_range]; exact wl) fun k b hb => ?_
      rw [List.getElem?_map] at hb
      obtain ⟨k', hk', rfl⟩ := Option.map_eq_some_iff.mp hb
      have hk2 := (List.getElem?_eq_some_iff.mp hk').1
      rw [List.length_range] at hk2
      have e : k' = k := by
        rw [List.getElem?_range hk2] at hk'
        injection hk' with hk'
        exact hk'.symm
      subst e
      rw [hmask k']
      exact ⟨fun h => h.2, fun h => ⟨by omega, h⟩⟩
/-! ### above -/
def sp_above (K : PySem.W.Frag) : Sp := fun vs H Q _ => ∃ (p : Addr) (g : Gr) (k : Nat), vs = [.ref p, .int k] ∧ IsGr (fun _ => True) H p g ∧ g.ok ∧ g.length ≤ 90000 ∧ k < g.length ∧ ∀ H' D, Same H H' → H D = none → H' D = some (.lst ((rchL g k).map fun x => V.int (x : Nat))) → Q (.ref D) H'
theorem ok_above (T : Txt w K mg) (c_has : Cl P w K mg base 1 "has" (sp_has K)) (c__ups : Cl P w K mg base 1 "_ups" (sp_ups K)) : Cl P w K mg base 2 "above" (sp_above K) := by
  refine T.d_above.ok sc_above (fun vs H Q E h => ?_) (fun f cdv A outer s H vs Q E hr h => ?_)
  · obtain ⟨p, g, k, rfl, _⟩ := h
    rfl
  · obtain ⟨p, g, k, rfl, hg, ok, hl, hk, q⟩ := h
    refine ⟨_, (pss_cons (ps_set (i := 2) sc_above.nd rfl (Or.inr rfl) (pe_ix (r := rIxL K) ix_list (pe_k c__ups hr (by omega) rfl (pa_cons (pv 0) pa_nil)) (pv 1) (fun _ _ => rfl)))
    (pss_one (ps_ret (pe_lc (own := [("j", 3)]) rfl sc_above.nd (pi_range1 rfl T.n_range (pa_cons (pe_callB (r := rLenK K) call_len_seq rfl T.n_len (by decide +kernel) (pa_cons (pv 0) pa_nil)) pa_nil)) (blkOk_by (N := sc_aboveN) (sc := defScope s_above) (by decide +kernel)) (fun _ _ _ _ _ => (pg_name (i := 3) sc_above.nd rfl (Or.inl rfl))) (fun _ _ _ _ _ => (pts_one (pt_val (pe_k c_has hr (by omega) rfl (pa_cons (pv 2) (pa_cons (pv 3) pa_nil)))))) (fun _ _ _ _ _ => (pv 3)))))), ?_⟩
    refine ⟨_, rfl, p, g, rfl, hg, ok, hl, fun H1 u ms s1 nu eu ml hm => ?_⟩
    have hkm : k < ms.length := by omega
    have ek : (ms.map fun m => V.int (m : Nat))[k]? = some (.int ((ms[k] : Nat) : Int)) := by
      rw [List.getElem?_map, List.getElem?_eq_getElem hkm]
      rfl
    refine ⟨_, rfl, u, _, _, _, rfl, rfl, SqL.of eu, atI_nat ek, ?_⟩
    have hmk := hm k ms[k] (List.getElem?_eq_getElem hkm)
    generalize ms[k] = m at hmk
    obtain ⟨⟨ws, hp, pw⟩, _⟩ := hg.same s1
    have wl : ws.length = g.length := pair_len pw
    refine ⟨_, rfl, p, ws, rfl, .inl (SqL.of hp), _, rfl, by omega, by omega, fun D nD => ?_⟩
    have nD0 := s1.free nD
    refine lc_range (lo := 0) (n := ws.length) (fun i H3 => H3 D = some (.lst (((List.range i).filter fun j => m.testBit j).map fun x => V.int (x : Nat))) ∧ Same H1 H3) ?_ ?_ ?_
    · exact ⟨upd_same, same_new nD⟩
    · rintro i H3 hi ⟨hD, s3⟩
      refine ⟨rfl, _, rfl, _, rfl, m, i, ?_, _, rfl, ?_⟩
      · show [V.int (m : Nat), V.int (0 + (i : Nat))] = _
        rw [Int.zero_add]
      · refine ite2 (fun h => ?_) (fun h => ?_)
        · refine ⟨_, rfl, _, hD, ?_, ?_, same_put s3 nD⟩
          · rw [List.length_map]
            have h1 := List.length_filter_le (fun j => m.testBit j) (List.range i)
            rw [List.length_range] at h1
            exact small (by omega)
          · rw [upd_same, List.range_succ, List.filter_append, List.map_append, Int.zero_add]
            simp [h]
        · refine ⟨?_, s3⟩
          rw [hD, List.range_succ, List.filter_append]
          simp [h]
    · rintro H3 ⟨hD, s3⟩
      have e : (List.range ws.length).filter (fun j => m.testBit j) = rchL g k := by
        unfold rchL
        rw [wl]
        refine List.filter_congr fun j _ => ?_
        have := hmk j
        cases hb : m.testBit j with
        | true => exact (@decide_eq_true _ (Classical.propDecidable _) (this.mp hb)).symm
        | false => exact (@decide_eq_false _ (Classical.propDecidable _) (fun z => by rw [this.mpr z] at hb; cases hb)).symm
      rw [e] at hD
      exact q H3 D (s1.trans s3) nD0 hD
/-! ### cut -/
def sp_cut (K : PySem.W.Frag) : Sp := fun vs H Q _ => ∃ (p : Addr) (g : Gr) (k : Nat), vs = [.ref p, .int k] ∧ IsGr (fun _ => True) H p g ∧ g.ok ∧ g.length ≤ 90000 ∧ k < g.length ∧ (∀ s ∈ g, s.2.length ≤ 90000) ∧ ∀ H' L, Same H H' → IsGr (fun x => H x = none) H' L (cutG g (rchL g k)) → Q (.ref L) H'
theorem ok_cut (T : Txt w K mg) (c_above : Cl P w K mg base 2 "above" (sp_above K)) : Cl P w K mg base 3 "cut" (sp_cut K) := by
  refine T.d_cut.ok sc_cut (fun vs H Q E h => ?_) (fun f cdv A outer s H vs Q E hr h => ?_)
  · obtain ⟨p, g, k, rfl, _⟩ := h
    rfl
  · obtain ⟨p, g, k, rfl, hg, ok, hl, hk, hl2, q⟩ := h
    refine ⟨_, (pss_cons (ps_set (i := 2) sc_cut.nd rfl (Or.inl rfl) (pe_k c_above hr (by omega) rfl (pa_cons (pv 0) (pa_cons (pv 1) pa_nil))))
    (pss_cons (ps_set (i := 3) sc_cut.nd rfl (Or.inr rfl) (pe_dc (own := [("new", 4), ("j", 5)]) rfl sc_cut.nd (pi_enum rfl T.n_enumerate (pa_cons (pv 2) pa_nil)) (blkOk_by (N := sc_cutN) (sc := defScope s_cut) (by decide +kernel)) (fun _ _ _ _ _ => (pg_tupK (K := K) (n := 2) rfl (pgs_cons (pg_name (i := 4) sc_cut.nd rfl (Or.inl rfl)) (pgs_cons (pg_name (i := 5) sc_cut.nd rfl (Or.inl rfl)) pgs_nil)))) (fun _ _ _ _ _ => pts_nil) (fun _ _ _ _ _ => (pv 5)) (fun _ _ _ _ _ => (pv 4))))
    (pss_one (ps_ret (pe_lc (own := [("j", 5)]) rfl sc_cut.nd (pi_listK (K := K) (pv 2)) (blkOk_by (N := sc_cutN) (sc := defScope s_cut) (by decide +kernel)) (fun _ _ _ _ _ => (pg_name (i := 5) sc_cut.nd rfl (Or.inl rfl))) (fun _ _ _ _ _ => pts_nil) (fun _ _ _ _ _ => (pe_tup (pa_cons (pe_callTy (r := rListK K) call_list_of rfl T.n_list (by decide +kernel) (pa_cons (pe_ix (r := rIxT K) ix_tup (pe_ix (r := rIxL K) ix_list (pv 0) (pv 5) (fun _ _ => rfl)) pe_int (fun _ _ => rfl)) pa_nil)) (pa_cons (pe_lc (own := [("i", 6)]) rfl sc_cut.nd (pi_listK (K := K) (pe_ix (r := rIxT K) ix_tup (pe_ix (r := rIxL K) ix_list (pv 0) (pv 5) (fun _ _ => rfl)) pe_int (fun _ _ => rfl))) (blkOk_by (N := sc_cutN) (by rfl)) (fun _ _ _ _ _ => (pg_name (i := 6) sc_cut.nd rfl (Or.inl rfl))) (fun _ _ _ _ _ => pts_nil) (fun _ _ _ _ _ => (pe_dget (hu_of hr) (pv 3) (pv 6) (fun _ _ => rfl)))) pa_nil))))))))), ?_⟩
    refine ⟨_, rfl, _, rfl, p, g, k, rfl, hg, ok, hl, hk, fun H1 D s1 nD hD => ?_⟩
    have c := rchL_closed ok k
    have kl : (rchL g k).length ≤ g.length := nodup_le _ _ (lt_nd c.lt) c.lo
    generalize rchL g k = ks at c kl hD q
    refine ⟨_, rfl, D, _, rfl, SqL.of hD, fun d nd => ?_⟩
    have nd0 := s1.free nd
    refine dc_it (walk_enum (K := K) (a := D) (xs := ks.map fun x => V.int (x : Nat))) (fun i H3 => ∃ kvs : List (Key × V), H3 d = some (.dK kvs) ∧ kvs.length ≤ i ∧ (∀ j ∈ ks.take i, valV kvs (.inl (j : Int)) = some (.int ((ks.idxOf j : Nat) : Int))) ∧ Same H1 H3) ?_ ?_ ?_ ?_
    · exact ⟨[], upd_same, Nat.le_refl _, fun j h => by simp at h, same_new nd⟩
    · rintro i H3 _ ⟨_, _, _, _, s3⟩
      exact SqL.of (s3 _ _ hD)
    · rintro i x H3 H4 hi ⟨kvs, hd, kvl, hv, s3⟩ ⟨t, x0, y0, rfl, nt, rfl, hx0, hy0⟩
      have e0 := Option.some.inj hx0
      subst e0
      have hy1 : (ks.map fun x => V.int (x : Nat))[i]? = some y0 := hy0
      rw [List.getElem?_map] at hy1
      obtain ⟨j, hj, rfl⟩ := Option.map_eq_some_iff.mp hy1
      have hi' : i < ks.length := (List.getElem?_eq_some_iff.mp hj).1
      have s4 : Same H1 (upd H3 t (.tup [.int (i : Nat), .int (j : Nat)])) := s3.trans (same_new nt)
      refine ⟨t, _, rfl, .inl (.inl upd_same), rfl, _, _, rfl, _, _, rfl, rfl, rfl, _, rfl, _, rfl, kvs, .inl (j : Int), rfl, same_new nt _ _ hd, small (by omega), _, upd_same, ?_, fun j' hj' => ?_, same_put s4 nd⟩
      · have := length_putK kvs (.inl (j : Int)) (.int (i : Nat))
        omega
      · rw [valV_put]
        have eij : ks.idxOf j = i := idxN_of (lt_nd c.lt) hj
        rw [take_snoc hj] at hj'
        by_cases e : j' = j
        · subst e
          rw [if_pos rfl, eij]
        · have e2 : ¬ (Sum.inl ((j' : Nat) : Int) : Key) = .inl ((j : Nat) : Int) := fun z => e (by injection z with z; omega)
          rw [if_neg e2]
          rcases List.mem_append.mp hj' with h | h
          · exact hv j' h
          · exact absurd (List.mem_singleton.mp h) e
    · rintro H3 ⟨kvs, hd, kvl, hv, s3⟩
      rw [List.length_map, List.take_length] at hv
      have s03 := s1.trans s3
      have hD3 := s3 _ _ hD
      refine ⟨_, rfl, D, rfl, ⟨_, SqL.of hD3⟩, fun L nL => ?_⟩
      have nL0 := s03.free nL
      have hg3 := hg.same s03
      obtain ⟨⟨ws, hp, pw⟩, _⟩ := hg3
      refine lc_list (K := K) (a := D) (xs := ks.map fun x => V.int (x : Nat)) (fun i H4 => ∃ vs : List V, H4 L = some (.lst vs) ∧ Paired (IsSd (fun x => H x = none ∧ x ≠ L) H4) vs (cutG g ks |>.take i) ∧ Same H3 H4) ?_ ?_ ?_ ?_
      · exact ⟨[], upd_same, .nil, same_new nL⟩
      · rintro i H4 _ ⟨_, _, _, s4⟩
        exact SqL.of (s4 _ _ hD3)
      · rintro i x H4 hx ⟨vs, hL, pv, s4⟩
        rw [List.getElem?_map] at hx
        obtain ⟨j, hj, rfl⟩ := Option.map_eq_some_iff.mp hx
        have hjk := List.mem_of_getElem? hj
        have il : i < ks.length := (List.getElem?_eq_some_iff.mp hj).1
        have ejs := stA_at (c.lo j hjk)
        have hul := hl2 _ (List.mem_of_getElem? ejs)
        obtain ⟨x, hx2, t, pn, pu, rfl, ht, hpn, hpu, _, _⟩ := pair_at pw ejs
        refine ⟨rfl, _, rfl, _, rfl, p, ws, _, _, rfl, rfl, SqL.of (s4 _ _ hp), atI_nat hx2, t, _, _, _, rfl, rfl, .inl (.inl (s4 _ _ ht)), at0, pn, _, rfl, .inl (SqL.of (s4 _ _ hpn)), fun a na => ?_⟩
        have s5 : Same H4 (upd H4 a (.lst ((stA g j).1.map fun n => V.str (S n)))) := same_new na
        have ea : (upd H4 a (.lst ((stA g j).1.map fun n => V.str (S n)))) a = some (.lst ((stA g j).1.map fun n => V.str (S n))) := upd_same
        show ∃ v : V, _
        generalize upd H4 a (.lst ((stA g j).1.map fun n => V.str (S n))) = H5 at s5 ea ⊢
        have s45 := s4.trans s5
        refine ⟨_, rfl, _, rfl, p, ws, _, _, rfl, rfl, SqL.of (s45 _ _ hp), atI_nat hx2, t, _, _, _, rfl, rfl, .inl (.inl (s45 _ _ ht)), at1, pu, rfl, ⟨_, SqL.of (s45 _ _ hpu)⟩, fun b nb => ?_⟩
        refine lc_list (K := K) (a := pu) (xs := (stA g j).2.map fun u => V.int (u : Nat)) (fun e H6 => H6 b = some (.lst ((((stA g j).2.take e).map fun u => ks.idxOf u).map fun u => V.int (u : Nat))) ∧ Same H5 H6) ?_ ?_ ?_ ?_
        · exact ⟨upd_same, same_new nb⟩
        · rintro e H6 _ ⟨_, s6⟩
          exact SqL.of (s6 _ _ (s45 _ _ hpu))
        · rintro e z H6 hz ⟨hb, s6⟩
          rw [List.getElem?_map] at hz
          obtain ⟨u, hu, rfl⟩ := Option.map_eq_some_iff.mp hz
          have huk := c.cl j hjk u (List.mem_of_getElem? hu)
          have hev : DGet H6 d (.int (u : Nat)) (some (.int ((ks.idxOf u : Nat) : Int))) := by
            rw [← hv u huk]
            exact DGet.k (k := .inl (u : Int)) (s6 _ _ (s45 _ _ hd))
          refine ⟨rfl, _, rfl, _, rfl, d, _, rfl, hev, _, hb, ?_, ?_, same_put s6 nb⟩
          · rw [List.length_map, List.length_map, List.length_take]
            exact small (by omega)
          · rw [upd_same, take_snoc hu, List.map_append, List.map_append]
            rfl
        · rintro H6 ⟨hb, s6⟩
          rw [List.length_map, List.take_length] at hb
          refine ⟨sz2, fun cc nc => ?_⟩
          have ea6 := s6 _ _ ea
          have s7 : Same H6 (upd H6 cc (.tup [.ref a, .ref b])) := same_new nc
          have ec : (upd H6 cc (.tup [.ref a, .ref b])) cc = some (.tup [.ref a, .ref b]) := upd_same
          have ea7 := s7 _ _ ea6
          have eb7 := s7 _ _ hb
          generalize upd H6 cc (.tup [.ref a, .ref b]) = H7 at s7 ec ea7 eb7
          have s47 := s5.trans (s6.trans s7)
          have hL7 := s47 _ _ hL
          have na0 : H a = none := (s03.trans s4).free na
          have nb0 : H b = none := (s03.trans s45).free nb
          have naL : a ≠ L := (ne_of_none hL na).symm
          have nbL : b ≠ L := (ne_of_none (s5 _ _ hL) nb).symm
          have lv : vs.length ≤ i := by
            have := pair_len pv
            rw [List.length_take] at this
            omega
          refine ⟨_, hL7, small (by omega), vs ++ [.ref cc], upd_same, ?_, same_put (s4.trans s47) nL⟩
          rw [take_snoc (cutG_at hj)]
          have tr : ∀ (v : V) (s : Std1), IsSd (fun x => H x = none ∧ x ≠ L) H7 v s → IsSd (fun x => H x = none ∧ x ≠ L) (upd H7 L (.lst (vs ++ [.ref cc]))) v s := fun v s h => by
            obtain ⟨t, pn, pu, k0, k1, k2, k3, k4, k5⟩ := h
            refine ⟨t, pn, pu, k0, ?_, ?_, ?_, k4, k5⟩
            · rw [upd_ne (ne_of k1 hL7 (by intro z; cases z))]
              exact k1
            · rw [upd_ne k4.2]
              exact k2
            · rw [upd_ne k5.2]
              exact k3
          exact pair_app (pair_map (fun v s h => tr v s (h.same s47)) pv) (.cons (tr _ _ ⟨cc, a, b, rfl, ec, ea7, eb7, ⟨na0, naL⟩, ⟨nb0, nbL⟩⟩) .nil)
      · rintro H4 ⟨vs, hL, pv, s4⟩
        have e : (ks.map fun x => V.int (x : Nat)).length = (cutG g ks).length := by rw [List.length_map, cutG_len]
        rw [e, List.take_length] at pv
        refine q H4 L (s03.trans s4) ⟨⟨vs, hL, pair_map (fun v s h => ?_) pv⟩, nL0⟩
        obtain ⟨t, pn, pu, k0, k1, k2, k3, k4, k5⟩ := h
        exact ⟨t, pn, pu, k0, k1, k2, k3, k4.1, k5.1⟩
/-! ### _law_well -/
def sp_law_well (K : PySem.W.Frag) : Sp := fun vs H Q _ => ∃ (c : Int), vs = [.int c] ∧ ∀ H' st, Same H H' → H st = none → StW H' st → Q (.ref st) H'
theorem ok_law_well (T : Txt w K mg) : Cl P w K mg base 1 "_law_well" (sp_law_well K) := by
  refine T.d_law_well.ok sc_law_well (fun vs H Q E h => ?_) (fun f cdv A outer s H vs Q E hr h => ?_)
  · obtain ⟨c, rfl, _⟩ := h
    rfl
  · obtain ⟨c, rfl, q⟩ := h
    refine ⟨_, (pss_one (ps_ret (pe_lst (pa_cons (pe_op op_mul (pv 0) (pe_callTy call_int1 rfl T.n_int (by decide +kernel) (pa_cons (pe_cmpR op_ge (pv 0) (pe_op op_pow pe_int pe_int) (nomark _)) pa_nil))) (pa_cons (pv 0) (pa_cons pe_int pa_nil)))))), ?_⟩
    refine ⟨_, rfl, _, rfl, _, _, rfl, rfl, ⟨by decide, by decide, by decide⟩, _, _, rfl, rfl, .inr ⟨_, rfl, _, _, rfl, rfl, .inr ?_, _, rfl, sz3, fun st n => ?_⟩⟩
    · cases decide (c ≥ 10 ^ (18 : Int).toNat) <;> exact ⟨by decide, by decide⟩
    · exact q _ st (same_new n) n ⟨_, _, _, upd_same⟩
/-! ### _law_draw -/
theorem ok_law_draw (T : Txt w K mg) : Cl P w K mg base 1 "_law_draw" (sp_draw K) := by
  refine T.d_law_draw.ok sc_law_draw (fun vs H Q E h => ?_) (fun f cdv A outer s H vs Q E hr h => ?_)
  · obtain ⟨st, m, rfl, _⟩ := h
    rfl
  · obtain ⟨st, m, rfl, hw, h0, h1, q⟩ := h
    have hw0 := hw
    obtain ⟨a, b, c, hs⟩ := hw0
    refine ⟨_, (pss_cons (ps_if (pt_cmpR op_gt (pe_ix (r := rIxL K) ix_list (pv 0) pe_int (fun _ _ => rfl)) pe_int (nomark _))
      (pss_cons (ps_set (i := 2) sc_law_draw.nd rfl (Or.inl rfl) (pe_op op_mod (pe_ix (r := rIxL K) ix_list (pv 0) pe_int (fun _ _ => rfl)) (pv 1)))
        (pss_cons (ps_asg (pe_op op_fdivW (pe_ix (r := rIxL K) ix_list (pv 0) pe_int (fun _ _ => rfl)) (pv 1)) (pg_sub (pv 0) pe_int set_list))
        (pss_one (ps_ret (pv 2)))))
      pss_nil)
    (pss_cons (ps_asg (pe_op op_add (pe_ix (r := rIxL K) ix_list (pv 0) pe_int (fun _ _ => rfl)) pe_int) (pg_sub (pv 0) pe_int set_list))
    (pss_cons (ps_set (i := 3) sc_law_draw.nd rfl (Or.inl rfl) (pe_op op_mod (pe_op op_mul (pe_op op_add (pe_op op_add (pe_op op_mod (pe_ix (r := rIxL K) ix_list (pv 0) pe_int (fun _ _ => rfl)) pe_int) (pe_op op_mul pe_int (pe_ix (r := rIxL K) ix_list (pv 0) pe_int (fun _ _ => rfl)))) pe_int) pe_int) pe_int))
    (pss_cons (ps_set (i := 3) sc_law_draw.nd rfl (Or.inl rfl) (pe_op op_mod (pe_op op_mul (pv 3) (pe_op op_add (pe_op op_add (pe_op op_fdivW (pv 3) pe_int) pe_int) (pe_op op_mod (pe_op op_fdivW (pe_ix (r := rIxL K) ix_list (pv 0) pe_int (fun _ _ => rfl)) pe_int) pe_int))) pe_int))
    (pss_one (ps_ret (pe_op op_mod (pe_op op_mod (pe_op op_mul (pe_op op_add (pv 3) (pe_op op_mul pe_int (pe_ix (r := rIxL K) ix_list (pv 0) pe_int (fun _ _ => rfl)))) (pe_op op_add (pe_op op_fdivW (pv 3) pe_int) pe_int)) pe_int) (pv 1)))))))), ?_⟩
    refine ⟨_, rfl, st, _, _, _, rfl, rfl, SqL.of hs, at0, _, _, rfl, rfl, _, rfl, ite2 (fun _ => ?_) (fun _ => ?_)⟩
    · refine ⟨_, rfl, st, _, _, _, rfl, rfl, SqL.of hs, at0, _, rfl, _, _, rfl, rfl, h0, ?_⟩
      refine ⟨_, rfl, st, _, _, _, rfl, rfl, SqL.of hs, at0, _, rfl, _, _, rfl, rfl, div_ok h0 h1, _, rfl, st, _, _, 0, rfl, rfl, hs, rfl, _, rfl, ?_⟩
      exact q _ _ ⟨But.put, hw, ⟨_, _, _, upd_same⟩⟩ (Int.emod_nonneg _ (by omega)) (Int.emod_lt_of_pos _ h0)
    · refine ⟨_, rfl, st, _, _, _, rfl, rfl, SqL.of hs, at2, _, _, rfl, rfl, _, rfl, st, _, _, 2, rfl, rfl, hs, rfl, ?_⟩
      have e2 : (upd H st (.lst ([V.int a, .int b, .int c].set 2 (.int (c + 1))))) st = some (.lst [.int a, .int b, .int (c + 1)]) := upd_same
      have w2 : Wd st H (upd H st (.lst ([V.int a, .int b, .int c].set 2 (.int (c + 1))))) := ⟨But.put, hw, ⟨_, _, _, e2⟩⟩
      show tSeq _ _ _ _ (upd H st (.lst ([V.int a, .int b, .int c].set 2 (.int (c + 1)))))
      generalize upd H st (.lst ([V.int a, .int b, .int c].set 2 (.int (c + 1)))) = H2 at e2 w2 ⊢
      refine ⟨_, rfl, st, _, _, _, rfl, rfl, SqL.of e2, at1, _, _, rfl, rfl, (by show (0 : Int) < 2147483647; decide), _, rfl, st, _, _, _, rfl, rfl, SqL.of e2, at2, _, _, rfl, rfl, .inl ⟨by decide, by decide⟩, _, _, rfl, rfl, _, _, rfl, rfl, _, _, rfl, rfl, .inr ⟨by decide, by decide⟩, _, _, rfl, rfl, (by show (0 : Int) < 2147483647; decide), ?_⟩
      have m1 := fun z : Int => small_modW z
      refine ⟨_, rfl, _, rfl, _, _, rfl, rfl, ⟨by decide, by decide⟩, _, _, rfl, rfl, _, rfl, st, _, _, _, rfl, rfl, SqL.of e2, at1, _, _, rfl, rfl, ⟨by decide, by decide⟩, _, _, rfl, rfl, (by show (0 : Int) < 9973; decide), _, _, rfl, rfl, _, _, rfl, rfl, .inl (small_modW _), _, _, rfl, rfl, (by show (0 : Int) < 2147483629; decide), ?_⟩
      refine ⟨_, rfl, _, rfl, st, _, _, _, rfl, rfl, SqL.of e2, at2, _, _, rfl, rfl, .inl ⟨by decide, by decide⟩, _, _, rfl, rfl, _, rfl, _, _, rfl, rfl, ⟨by decide, by decide⟩, _, _, rfl, rfl, _, _, rfl, rfl, .inr ?_, _, _, rfl, rfl, (by show (0 : Int) < 2147483399; decide), _, rfl, _, _, rfl, rfl, h0, ?_⟩
      · have h3 : ∀ z : Int, 0 ≤ z → z < 2147483629 → -(2 ^ 64) < z / 2003 + 40692 ∧ z / 2003 + 40692 < 2 ^ 64 := fun z hz0 hz1 => by omega
        exact h3 _ (Int.emod_nonneg _ (by decide)) (Int.emod_lt_of_pos _ (by decide))
      · exact q _ _ w2 (Int.emod_nonneg _ (by omega)) (Int.emod_lt_of_pos _ h0)
/-! ### _law_names -/
def sp_law_names (K : PySem.W.Frag) : Sp := fun vs H Q _ => ∃ (st : Addr) (m : Nat), vs = [.ref st, .int m] ∧ StW H st ∧ m ≤ 10 ∧
  ∀ H' p (ls : List (List Nat)), Wd st H H' → H p = none → H' p = some (.lst (ls.map fun l => V.str (S l))) → ls.length = m → (∀ l ∈ ls, Nm l) → ls.Nodup → Q (.ref p) H'
theorem nat_of {r : Int} {n : Nat} (h0 : 0 ≤ r) (h1 : r < n) : ∃ k : Nat, r = k ∧ k < n := ⟨r.toNat, by omega, by omega⟩
theorem ok_law_names (T : Txt w K mg) (c__law_draw : Cl P w K mg base 1 "_law_draw" (sp_draw K)) : Cl P w K mg base 2 "_law_names" (sp_law_names K) := by
  refine T.d_law_names.ok sc_law_names (fun vs H Q E h => ?_) (fun f cdv A outer s H vs Q E hr h => ?_)
  · obtain ⟨st, m, rfl, _⟩ := h
    rfl
  · obtain ⟨st, m, rfl, hw, hm, q⟩ := h
    refine ⟨_, (pss_cons (ps_set (i := 2) sc_law_names.nd rfl (Or.inr rfl) pe_str)
    (pss_cutO (ps_set (i := 3) sc_law_names.nd rfl (Or.inr rfl) (pe_join pe_str (pe_lc (own := [("_law_k", 5)]) rfl sc_law_names.nd (pi_range1 rfl T.n_range (pa_cons (pe_k c__law_draw hr (by omega) rfl (pa_cons (pv 0) (pa_cons pe_int pa_nil))) pa_nil)) (blkOk_by (N := sc_law_namesN) (sc := defScope s_law_names) (by decide +kernel)) (fun _ _ _ _ _ => (pg_name (i := 5) sc_law_names.nd rfl (Or.inl rfl))) (fun _ _ _ _ _ => pts_nil) (fun _ _ _ _ _ => (pe_ix ix_str (pv 2) (pe_k c__law_draw hr (by omega) rfl (pa_cons (pv 0) (pa_cons pe_int pa_nil))) (fun _ _ => rfl))))))
    (pss_cutO (ps_set (i := 3) sc_law_names.nd rfl (Or.inr rfl) (pe_ix (r := rIxL K) ix_list (pe_lst (pa_cons pe_str (pa_cons pe_str (pa_cons pe_str (pa_cons pe_str (pa_cons (pv 3) (pa_cons (pv 3) (pa_cons (pv 3) (pa_cons (pv 3) pa_nil))))))))) (pe_k c__law_draw hr (by omega) rfl (pa_cons (pv 0) (pa_cons pe_int pa_nil))) (fun _ _ => rfl)))
    (pss_cutO (ps_set (i := 4) sc_law_names.nd rfl (Or.inr rfl) (pe_k c__law_draw hr (by omega) rfl (pa_cons (pv 0) (pa_cons pe_int pa_nil))))
    (pss_cons (ps_if (pt_cmpR op_eq (pe_k c__law_draw hr (by omega) rfl (pa_cons (pv 0) (pa_cons pe_int pa_nil))) pe_int (nomark _))
      (pss_one (ps_ret (pe_lc (own := [("_law_k", 5)]) rfl sc_law_names.nd (pi_range1 rfl T.n_range (pa_cons (pv 1) pa_nil)) (blkOk_by (N := sc_law_namesN) (sc := defScope s_law_names) (by decide +kernel)) (fun _ _ _ _ _ => (pg_name (i := 5) sc_law_names.nd rfl (Or.inl rfl))) (fun _ _ _ _ _ => pts_nil) (fun _ _ _ _ _ => (pe_op op_add_str (pv 3) (pe_ix ix_str pe_str (pe_op op_mod (pe_op op_add (pv 4) (pv 5)) pe_int) (fun _ _ => rfl)))))))
      pss_nil)
    (pss_one (ps_ret (pe_lc (own := [("_law_k", 5)]) rfl sc_law_names.nd (pi_range1 rfl T.n_range (pa_cons (pv 1) pa_nil)) (blkOk_by (N := sc_law_namesN) (sc := defScope s_law_names) (by decide +kernel)) (fun _ _ _ _ _ => (pg_name (i := 5) sc_law_names.nd rfl (Or.inl rfl))) (fun _ _ _ _ _ => pts_nil) (fun _ _ _ _ _ => (pe_op op_add_str (pe_ix ix_str pe_str (pe_op op_mod (pe_op op_add (pv 4) (pv 5)) pe_int) (fun _ _ => rfl)) (pv 3))))))))))), ?_⟩
    refine ⟨fun σ' H' => ∃ cs : List Nat, σ' = [some (.ref st), some (.int m), some (.str "abcdefghijklmnopqrstuvwxyz"), some (.str (S cs)), none, none] ∧ Stem cs ∧ Wd st H H', ?_, fun σ' H' h1 => ?_⟩
    · refine ⟨⟨_, rfl⟩, _, rfl, st, 8, rfl, hw, by decide, by decide, fun H1 r w1 r0 r1 => ?_⟩
      obtain ⟨n, rfl, hn⟩ := nat_of (n := 8) r0 r1
      refine ⟨_, rfl, by omega, by omega, fun D nD => ?_⟩
      have nD0 := w1.free nD
      refine lc_range (lo := 0) (n := n) (fun i H3 => ∃ cs : List Nat, H3 D = some (.lst (cs.map fun c => V.str (S [c]))) ∧ cs.length = i ∧ (∀ c ∈ cs, 97 ≤ c ∧ c ≤ 122) ∧ Wd st H H3) ?_ ?_ ?_
      · exact ⟨[], upd_same, rfl, fun _ h => (nomatch h), w1.new nD⟩
      · rintro i H3 hi ⟨cs, hD, cl, hcs, w3⟩
        refine ⟨rfl, _, rfl, _, rfl, st, 26, rfl, w3.w1, by decide, by decide, fun H4 r w4 r0 r1 => ?_⟩
        obtain ⟨k, rfl, hk⟩ := nat_of (n := 26) r0 r1
        have nDs : D ≠ st := Wd.ne hw nD0
        refine ⟨_, _, 97 + k, rfl, rfl, (by decide), atI_nat (abc_at k (by omega)), _, w4.bt _ _ nDs hD, ?_, cs ++ [97 + k], ?_, ?_, ?_, (w3.trans w4).put nD0⟩
        · rw [List.length_map]
          exact small (by omega)
        · rw [upd_same, List.map_append]
          rfl
        · rw [List.length_append, cl]
          rfl
        · intro c hc
          rcases List.mem_append.mp hc with hc | hc
          · exact hcs c hc
          · rw [List.mem_singleton.mp hc]
            omega
      · rintro H3 ⟨cs, hD, cl, hcs, w3⟩
        refine ⟨_, D, cs.map fun c => S [c], rfl, rfl, .inl (SqL.of (by rw [List.map_map]; exact hD)), ?_, ?_⟩
        · rw [sum_ones, List.length_map]
          show cs.length + cs.length * 0 ≤ 16777216
          omega
        · rw [join_signs]
          exact ⟨cs, rfl, ⟨by omega, hcs⟩, w3⟩
    · obtain ⟨cs, rfl, hst, w1⟩ := h1
      refine ⟨fun σ' H' => ∃ cs : List Nat, σ' = [some (.ref st), some (.int m), some (.str "abcdefghijklmnopqrstuvwxyz"), some (.str (S cs)), none, none] ∧ Stem cs ∧ Wd st H H', ?_, fun σ' H' h1 => ?_⟩
      · refine ⟨_, rfl, _, rfl, _, rfl, _, rfl, by show 8 ≤ sizeLine; decide, fun l nl => ⟨_, rfl, st, 8, rfl, w1.w1.same (same_new nl), by decide, by decide, fun H3 r w3 r0 r1 => ?_⟩⟩
        obtain ⟨k, rfl, hk⟩ := nat_of (n := 8) r0 r1
        have nls : l ≠ st := Wd.ne w1.w1 nl
        have w4 : Wd st H H3 := (w1.new nl).trans w3
        have el := w3.bt _ _ nls upd_same
        have fin : ∀ c2 : List Nat, Stem c2 → [V.str "and", .str "or", .str "then", .str "never", .str (S cs), .str (S cs), .str (S cs), .str (S cs)][k]? = some (.str (S c2)) → ∃ p xs i v, V.ref l = .ref p ∧ V.int (k : Nat) = .int i ∧ SqL K H3 p xs ∧ atI xs i = some v ∧ ∃ cs : List Nat, [some (.ref st), some (.int m), some (.str "abcdefghijklmnopqrstuvwxyz"), some v, none, none] = [some (.ref st), some (.int m), some (.str "abcdefghijklmnopqrstuvwxyz"), some (.str (S cs)), none, none] ∧ Stem cs ∧ Wd st H H3 := fun c2 h2 e => ⟨l, _, _, _, rfl, rfl, SqL.of el, atI_nat e, c2, rfl, h2, w4⟩
        have e1 : ∀ (l : List Nat) (x : Str), S l = x → V.str x = V.str (S l) := fun l x e => by rw [e]
        match k, hk with
        | 0, _ => exact fin [97, 110, 100] ⟨by decide, by decide⟩ (congrArg some (e1 _ _ (by decide +kernel)))
        | 1, _ => exact fin [111, 114] ⟨by decide, by decide⟩ (congrArg some (e1 _ _ (by decide +kernel)))
        | 2, _ => exact fin [116, 104, 101, 110] ⟨by decide, by decide⟩ (congrArg some (e1 _ _ (by decide +kernel)))
        | 3, _ => exact fin [110, 101, 118, 101, 114] ⟨by decide, by decide⟩ (congrArg some (e1 _ _ (by decide +kernel)))
        | 4, _ => exact fin cs hst rfl
        | 5, _ => exact fin cs hst rfl
        | 6, _ => exact fin cs hst rfl
        | 7, _ => exact fin cs hst rfl
      · obtain ⟨cs, rfl, hst, w2⟩ := h1
        refine ⟨fun σ' H' => ∃ o : Nat, σ' = [some (.ref st), some (.int m), some (.str "abcdefghijklmnopqrstuvwxyz"), some (.str (S cs)), some (.int o), none] ∧ Wd st H H', ?_, fun σ' H' h1 => ?_⟩
        · refine ⟨_, rfl, st, 10, rfl, w2.w1, by decide, by decide, fun H3 r w3 r0 r1 => ?_⟩
          obtain ⟨k, rfl, hk⟩ := nat_of (n := 10) r0 r1
          exact ⟨k, rfl, w2.trans w3⟩
        · obtain ⟨o, rfl, w3⟩ := h1
          have hcs := hst.hi
          refine ⟨_, rfl, st, 2, rfl, w3.w1, by decide, by decide, fun H4 r w4 r0 r1 => ⟨rfl, _, rfl, ite2 (fun _ => ?_) (fun _ => ?_)⟩⟩
          · have w34 := w3.trans w4
            refine ⟨_, rfl, _, rfl, by omega, by omega, fun D nD => ?_⟩
            have nD0 := w34.free nD
            refine lc_range (lo := 0) (n := m) (fun i H3 => H3 D = some (.lst (((List.range i).map (nmA cs o)).map fun l => V.str (S l))) ∧ Wd st H H3) ?_ ?_ ?_
            · exact ⟨upd_same, w34.new nD⟩
            · rintro i H5 hi ⟨hD, w5⟩
              have hj : (o + i) % 10 < 10 := Nat.mod_lt _ (by decide)
              refine ⟨rfl, _, rfl, _, rfl, _, rfl, _, _, rfl, rfl, _, _, rfl, rfl, (by show (0 : Int) < 10; decide), _, _, dgA.getD ((o + i) % 10) 0, rfl, rfl, (by decide), ?_, _, _, rfl, rfl, ?_, _, hD, ?_, ?_, w5.put nD0⟩
              · show atI _ (((o : Int) + (0 + (i : Int))) % 10) = _
                rw [show ((o : Int) + (0 + (i : Int))) % 10 = (((o + i) % 10 : Nat) : Int) by omega]
                exact atI_nat (dgA_at _ hj)
              · rw [S_len]
                show cs.length + 1 ≤ sizeLine
                exact small' (by omega)
              · rw [List.length_map, List.length_map, List.length_range]
                exact small (by omega)
              · rw [upd_same, List.range_succ, List.map_append, List.map_append]
                have e : S cs ++ (⟨#[dgA.getD ((o + i) % 10) 0]⟩ : Str) = S (nmA cs o i) := S_cat cs [dgA.getD ((o + i) % 10) 0]
                rw [e]
                rfl
            · rintro H5 ⟨hD, w5⟩
              refine q H5 D _ w5 nD0 hD (by rw [List.length_map, List.length_range]) (fun l hl => ?_) (nmA_nodup cs o hm)
              obtain ⟨i, _, rfl⟩ := List.mem_map.mp hl
              exact nmA_nm hst o i
          · have w34 := w3.trans w4
            refine ⟨_, rfl, _, rfl, by omega, by omega, fun D nD => ?_⟩
            have nD0 := w34.free nD
            refine lc_range (lo := 0) (n := m) (fun i H3 => H3 D = some (.lst (((List.range i).map (nmB' cs o)).map fun l => V.str (S l))) ∧ Wd st H H3) ?_ ?_ ?_
            · exact ⟨upd_same, w34.new nD⟩
            · rintro i H5 hi ⟨hD, w5⟩
              have hj : (o + i) % 10 < 10 := Nat.mod_lt _ (by decide)
              refine ⟨rfl, _, rfl, _, rfl, _, _, rfl, rfl, _, _, rfl, rfl, (by show (0 : Int) < 10; decide), _, _, dgB.getD ((o + i) % 10) 0, rfl, rfl, (by decide), ?_, _, rfl, _, _, rfl, rfl, ?_, _, hD, ?_, ?_, w5.put nD0⟩
              · show atI _ (((o : Int) + (0 + (i : Int))) % 10) = _
                rw [show ((o : Int) + (0 + (i : Int))) % 10 = (((o + i) % 10 : Nat) : Int) by omega]
                exact atI_nat (dgB_at _ hj)
              · rw [S_len]
                show 1 + cs.length ≤ sizeLine
                exact small' (by omega)
              · rw [List.length_map, List.length_map, List.length_range]
                exact small (by omega)
              · rw [upd_same, List.range_succ, List.map_append, List.map_append]
                have e : (⟨#[dgB.getD ((o + i) % 10) 0]⟩ : Str) ++ S cs = S (nmB' cs o i) := S_cat [dgB.getD ((o + i) % 10) 0] cs
                rw [e]
                rfl
            · rintro H5 ⟨hD, w5⟩
              refine q H5 D _ w5 nD0 hD (by rw [List.length_map, List.length_range]) (fun l hl => ?_) (nmB_nodup cs o hm)
              obtain ⟨i, _, rfl⟩ := List.mem_map.mp hl
              exact nmB_nm hst o i
/-! ### _law_statement -/
def sp_law_statement (K : PySem.W.Frag) (n : Nat) : Sp := fun vs H Q _ => ∃ (st pn : Addr) (ls : List (List Nat)) (d : Nat), vs = [.ref st, .ref pn, .int d] ∧ StW H st ∧ H pn = some (.lst (ls.map fun l => V.str (S l))) ∧ pn ≠ st ∧ ls ≠ [] ∧ ls.length ≤ 1000 ∧ d < n ∧
  ∀ H' v (s : Sm), Wd st H H' → IsSt H' v s → s.In (· ∈ ls) → s.dp ≤ d → Q v H'
theorem ok_law_statement (T : Txt w K mg) (c__law_draw : Cl P w K mg base 1 "_law_draw" (sp_draw K)) : ∀ n : Nat, Cl P w K mg base (n + 1) "_law_statement" (sp_law_statement K n)
  | 0 => (T.d_law_statement.none fun vs H Q E h => by
    obtain ⟨_, _, _, d, _, _, _, _, _, _, h, _⟩ := h
    omega).mono (by omega)
  | n + 1 => by
    have c__law_statement : Cl P w K mg base (n + 1) "_law_statement" (sp_law_statement K n) := ok_law_statement T c__law_draw n
    refine T.d_law_statement.ok sc_law_statement (fun vs H Q E h => ?_) (fun f cdv A outer s H vs Q E hr h => ?_)
    · obtain ⟨st, pn, ls, d, rfl, _⟩ := h
      rfl
    · obtain ⟨st, pn, ls, d, rfl, hw, hpn, nps, hne, hll, hd, q⟩ := h
      have hl0 : 0 < ls.length := List.length_pos_iff.mpr hne
      refine ⟨_, (pss_cons (ps_set (i := 3) sc_law_statement.nd rfl (Or.inl rfl) (pe_k c__law_draw hr (by omega) rfl (pa_cons (pv 0) (pa_cons pe_int pa_nil))))
    (pss_cutO (ps_if (PW.pt (pw_or (pt_cmpR op_eq (pv 2) pe_int (nomark _)) (pw_or1 (pt_cmpR op_lt (pv 3) pe_int (nomark _)))))
      (pss_cutO (ps_if (pt_cmpR op_eq (pe_k c__law_draw hr (by omega) rfl (pa_cons (pv 0) (pa_cons pe_int pa_nil))) pe_int (nomark _))
          (pss_one (ps_ret (pe_tup (pa_cons pe_str pa_nil))))
          pss_nil)
        (pss_one (ps_ret (pe_tup (pa_cons pe_str (pa_cons (pe_ix (r := rIxL K) ix_list (pv 1) (pe_k c__law_draw hr (by omega) rfl (pa_cons (pv 0) (pa_cons (pe_callB (r := rLenK K) call_len_seq rfl T.n_len (by decide +kernel) (pa_cons (pv 1) pa_nil)) pa_nil))) (fun _ _ => rfl)) pa_nil))))))
      pss_nil)
    (pss_cons (ps_set (i := 4) sc_law_statement.nd rfl (Or.inl rfl) (pe_k c__law_statement hr (by omega) rfl (pa_cons (pv 0) (pa_cons (pv 1) (pa_cons (pe_op op_sub (pv 2) pe_int) pa_nil)))))
    (pss_cons (ps_set (i := 5) sc_law_statement.nd rfl (Or.inl rfl) (pe_k c__law_statement hr (by omega) rfl (pa_cons (pv 0) (pa_cons (pv 1) (pa_cons (pe_op op_sub (pv 2) pe_int) pa_nil)))))
    (pss_one (ps_ret (pe_tup (pa_cons (pe_ix (r := rIxL K) ix_list (pe_lst (pa_cons pe_str (pa_cons pe_str (pa_cons pe_str (pa_cons pe_str (pa_cons pe_str (pa_cons pe_str (pa_cons pe_str pa_nil)))))))) (pe_op op_sub (pv 3) pe_int) (fun _ _ => rfl)) (pa_cons (pv 4) (pa_cons (pv 5) pa_nil)))))))))), ?_⟩
      refine ⟨_, rfl, st, 9, rfl, hw, by decide, by decide, fun H1 r w1 r0 r1 => ?_⟩
      obtain ⟨k, rfl, hk⟩ := nat_of (n := 9) r0 r1
      have hpn1 := w1.bt _ _ nps hpn
      refine ⟨fun σ' H' => σ' = [some (.ref st), some (.ref pn), some (.int d), some (.int k), none, none] ∧ H' = H1 ∧ d ≠ 0 ∧ 2 ≤ k, ?_, fun σ' H' h1 => ?_⟩
      · have hc : An _ [some (.ref st), some (.ref pn), some (.int d), some (.int k), none, none] H1 (decide (V.int (d : Nat) = V.int 0) || decide (((k : Nat) : Int) < 2)) := an_or (an_test (vl_eq (vl_var (i := 2) rfl) vl_c rfl)) (an_test (b := decide (((k : Nat) : Int) < 2)) (vl_I0 (g := fun i j => V.bl (decide (i < j))) (i := ((k : Nat) : Int)) (j := 2) (vl_var (i := 3) rfl) vl_c))
        refine hc _ (ite2 (fun _ => ?_) (fun h => ?_))
        · refine ⟨fun σ' H' => σ' = [some (.ref st), some (.ref pn), some (.int d), some (.int k), none, none] ∧ Wd st H H', ?_, fun σ' H' h1 => ?_⟩
          · refine ⟨_, rfl, st, 7, rfl, w1.w1, by decide, by decide, fun H2 r w2 _ _ => ⟨rfl, _, rfl, ite2 (fun _ => ?_) (fun _ => ?_)⟩⟩
            · exact ⟨sz1, fun p np => q _ _ .nv ((w1.trans w2).new np) (.nv upd_same) True.intro (Nat.zero_le _)⟩
            · exact ⟨rfl, w1.trans w2⟩
          · obtain ⟨rfl, w2⟩ := h1
            have hpn2 := w2.bt _ _ nps hpn
            refine ⟨_, rfl, _, rfl, _, rfl, pn, _, rfl, .inl (SqL.of hpn2), st, _, rfl, w2.w1, ?_, ?_, fun H3 r w3 r0 r1 => ?_⟩
            · rw [List.length_map]
              omega
            · rw [List.length_map]
              exact Int.lt_of_le_of_lt (show (ls.length : Int) ≤ 1000 by omega) (by decide)
            · rw [List.length_map] at r1
              obtain ⟨j, rfl, hj⟩ := nat_of r0 r1
              have hpn3 := w3.bt _ _ nps hpn2
              exact ⟨pn, _, _, _, rfl, rfl, SqL.of hpn3, at_map hj, sz2, fun p np => q _ _ (.lt ls[j]) ((w2.trans w3).new np) (.lt upd_same) (List.getElem_mem _) (Nat.zero_le _)⟩
        · rw [Bool.or_eq_true] at h
          refine ⟨rfl, rfl, fun z => h (.inl ?_), ?_⟩
          · rw [z]
            exact decide_eq_true rfl
          · have : ¬ ((k : Nat) : Int) < 2 := fun z => h (.inr (decide_eq_true z))
            omega
      · obtain ⟨rfl, rfl, hd0, hk2⟩ := h1
        have ed : ((d : Nat) : Int) - 1 = ((d - 1 : Nat) : Int) := by omega
        refine ⟨_, rfl, _, rfl, _, rfl, _, _, rfl, rfl, st, pn, ls, d - 1, ?_, w1.w1, hpn1, nps, hne, hll, by omega, fun H2 v2 s2 w2 i2 n2 d2 => ?_⟩
        · show [V.ref st, V.ref pn, V.int (((d : Nat) : Int) - 1)] = _
          rw [ed]
        have hpn2 := w2.bt _ _ nps hpn1
        refine ⟨_, rfl, _, rfl, _, rfl, _, _, rfl, rfl, st, pn, ls, d - 1, ?_, w2.w1, hpn2, nps, hne, hll, by omega, fun H3 v3 s3 w3 i3 n3 d3 => ?_⟩
        · show [V.ref st, V.ref pn, V.int (((d : Nat) : Int) - 1)] = _
          rw [ed]
        obtain ⟨w, hw7⟩ := jw7 (k := k - 2) (by omega)
        refine ⟨by show 7 ≤ sizeLine; decide, fun l nl => ⟨_, rfl, _, _, rfl, rfl, l, _, _, .str w.s, rfl, rfl, SqL.of upd_same, ?_, _, rfl, _, rfl, sz3, fun t nt => ?_⟩⟩
        · show atI _ (((k : Nat) : Int) - 2) = _
          rw [show ((k : Nat) : Int) - 2 = ((k - 2 : Nat) : Int) by omega]
          exact atI_nat hw7
        · have s4 := (same_new (o := .lst [V.str "and", .str "or", .str "then", .str "then", .str "or", .str "and", .str "then"]) nl).trans (same_new (o := .tup [.str w.s, v2, v3]) nt)
          refine q _ _ (.bin w s2 s3) ((w1.trans (w2.trans w3)).then s4) (.bin upd_same ((i2.ts w3.ts).ts (Same.ts s4)) (i3.ts (Same.ts s4))) ⟨n2, n3⟩ ?_
          show max s2.dp s3.dp + 1 ≤ d
          omega
/-! ### _law_growth -/
def sp_law_growth (K : PySem.W.Frag) : Sp := fun vs H Q _ => ∃ (st pn : Addr) (ls : List (List Nat)) (most : Nat), vs = [.ref st, .ref pn, .int most] ∧ StW H st ∧ H pn = some (.lst (ls.map fun l => V.str (S l))) ∧ pn ≠ st ∧ ls.length < 64 ∧ 1 ≤ most ∧ most ≤ 1000 ∧
  ∀ H' L (g : Gr), Wd st H H' → H L = none → IsGr (· ≠ st) H' L g → Good ls g → 1 ≤ g.length → g.length ≤ most → Q (.ref L) H'
theorem sz4i {a b c d : V} : [a, b, c, d].length ≤ sizeLine := sz4
theorem shape_at {k : Nat} (h : k < 4) : ∃ m : Int, ([V.int 1, .int 2, .int 3, .int 1])[k]? = some (.int m) ∧ 0 < m ∧ m < 2 ^ 4000 := by
  match k, h with
  | 0, _ => exact ⟨1, rfl, by decide, by decide⟩
  | 1, _ => exact ⟨2, rfl, by decide, by decide⟩
  | 2, _ => exact ⟨3, rfl, by decide, by decide⟩
  | 3, _ => exact ⟨1, rfl, by decide, by decide⟩
theorem sub_snoc {α : Type} {l m : List α} {x : α} (h : l.Sublist m) : (l ++ [x]).Sublist (m ++ [x]) := h.append (List.Sublist.refl _)
theorem sub_more {α : Type} {l m : List α} {x : α} (h : l.Sublist m) : l.Sublist (m ++ [x]) := h.trans (List.sublist_append_left _ _)
theorem ok_law_growth (T : Txt w K mg) (c__law_draw : Cl P w K mg base 1 "_law_draw" (sp_draw K)) : Cl P w K mg base 2 "_law_growth" (sp_law_growth K) := by
  refine T.d_law_growth.ok sc_law_growth (fun vs H Q E h => ?_) (fun f cdv A outer s H vs Q E hr h => ?_)
  · obtain ⟨st, pn, ls, most, rfl, _⟩ := h
    rfl
  · obtain ⟨st, pn, ls, most, rfl, hw, hpn, nps, hll, hm1, hm2, q⟩ := h
    refine ⟨_, (pss_cons (ps_set (i := 3) sc_law_growth.nd rfl (Or.inl rfl) (pe_op op_add pe_int (pe_k c__law_draw hr (by omega) rfl (pa_cons (pv 0) (pa_cons (pv 2) pa_nil)))))
    (pss_cons (ps_set (i := 4) sc_law_growth.nd rfl (Or.inr rfl) (pe_k c__law_draw hr (by omega) rfl (pa_cons (pv 0) (pa_cons pe_int pa_nil))))
    (pss_cons (ps_set (i := 5) sc_law_growth.nd rfl (Or.inl rfl) (pe_k c__law_draw hr (by omega) rfl (pa_cons (pv 0) (pa_cons pe_int pa_nil))))
    (pss_cons (ps_set (i := 6) sc_law_growth.nd rfl (Or.inr rfl) pe_dnewK)
    (pss_cons (ps_for PassesOwn.never rfl (pi_revR rfl T.n_reversed (prg_1 rfl T.n_range (pv 3))) (pg_name (i := 7) sc_law_growth.nd rfl (Or.inl rfl))
      (pss_cons (ps_set (i := 8) sc_law_growth.nd rfl (Or.inr rfl) (pe_lc (own := [("_law_j", 10)]) rfl sc_law_growth.nd (pi_range2 rfl T.n_range (pa_cons (pe_op op_add (pv 7) pe_int) (pa_cons (pv 3) pa_nil))) (blkOk_by (N := sc_law_growthN) (sc := defScope s_law_growth) (by decide +kernel)) (fun _ _ _ _ _ => (pg_name (i := 10) sc_law_growth.nd rfl (Or.inl rfl))) (fun _ _ _ _ _ => (pts_one (pt_cmpR op_eq (pe_k c__law_draw hr (by omega) rfl (pa_cons (pv 0) (pa_cons (pe_ix (r := rIxL K) ix_list (pe_lst (pa_cons pe_int (pa_cons pe_int (pa_cons pe_int (pa_cons pe_int pa_nil))))) (pv 4) (fun _ _ => rfl)) pa_nil))) pe_int (nomark _)))) (fun _ _ _ _ _ => (pv 10))))
        (pss_cutO (ps_if (pt_cmpR op_eq (pv 4) pe_int (nomark _))
          (pss_one (ps_set (i := 8) sc_law_growth.nd rfl (Or.inr rfl) (pe_slice (r := rSlL K) sl_list (pv 8) po_none (po_some pe_int))))
          pss_nil)
        (pss_cutO (ps_if (PW.pt (pw_and (pt_cmpR op_eq (pv 7) pe_int (nomark _)) (pw_and1 (pt_cmpR op_eq (pv 5) pe_int (nomark _)))))
          (pss_one (ps_set (i := 8) sc_law_growth.nd rfl (Or.inr rfl) (pe_listRg rfl rfl T.n_list (prg_2 rfl T.n_range pe_int (pv 3)))))
          pss_nil)
        (pss_cons (ps_setLc (i := 9) (own := [("_law_name", 11)]) rfl sc_law_growth.nd rfl rfl (sw_true rfl rfl rfl (by decide +kernel)) (pi_listK (K := K) (pe_callB (r := rSortedS K) cr_sortedS rfl T.n_sorted (by decide +kernel) (pa_cons (pv 1) pa_nil))) (blkOk_by (N := sc_law_growthN) (sc := defScope s_law_growth) (by decide +kernel)) (fun _ _ _ _ _ => (pg_name (i := 11) sc_law_growth.nd rfl (Or.inr rfl))) (fun _ _ _ _ _ => (pts_one (pt_val (pe_callB (r := rAll K) (cr_all rfl) rfl T.n_all (by decide +kernel) (pa_cons (pe_lc (own := [("_law_j", 10)]) rfl sc_law_growth.nd (pi_listK (K := K) (pv 8)) (blkOk_by (N := sc_law_growthN) (by rfl)) (fun _ _ _ _ _ => (pg_name (i := 10) sc_law_growth.nd rfl (Or.inl rfl))) (fun _ _ _ _ _ => pts_nil) (fun _ _ _ _ _ => (pe_cmpR (r := rIn K false) op_in_seq (pv 11) (pe_ix (r := rIxT K) ix_tup (pe_dget (hu_of hr) (pv 6) (pv 10) (fun _ _ => rfl)) pe_int (fun _ _ => rfl)) (by rfl)))) pa_nil))))) (fun _ _ _ _ _ => (pv 11)))
        (pss_one (ps_dput (hu_of hr) (pv 6) (pv 7) (pe_tup (pa_cons (pe_lc (own := [("_law_name", 11)]) rfl sc_law_growth.nd (pi_listK (K := K) (pv 9)) (blkOk_by (N := sc_law_growthN) (sc := defScope s_law_growth) (by decide +kernel)) (fun _ _ _ _ _ => (pg_name (i := 11) sc_law_growth.nd rfl (Or.inl rfl))) (fun _ _ _ _ _ => (pts_one (pt_cmpR op_gt (pe_k c__law_draw hr (by omega) rfl (pa_cons (pv 0) (pa_cons pe_int pa_nil))) pe_int (nomark _)))) (fun _ _ _ _ _ => (pv 11))) (pa_cons (pv 8) pa_nil))) rfl)))))))
    (pss_one (ps_ret (pe_lc (own := [("_law_k", 7)]) rfl sc_law_growth.nd (pi_range1 rfl T.n_range (pa_cons (pv 3) pa_nil)) (blkOk_by (N := sc_law_growthN) (sc := defScope s_law_growth) (by decide +kernel)) (fun _ _ _ _ _ => (pg_name (i := 7) sc_law_growth.nd rfl (Or.inl rfl))) (fun _ _ _ _ _ => pts_nil) (fun _ _ _ _ _ => (pe_dget (hu_of hr) (pv 6) (pv 7) (fun _ _ => rfl))))))))))), ?_⟩
    refine ⟨_, rfl, _, rfl, st, most, rfl, hw, by omega, Int.lt_of_le_of_lt (show (most : Int) ≤ 1000 by omega) (by decide), fun H1 r w1 r0 r1 => ⟨_, _, rfl, rfl, ?_⟩⟩
    obtain ⟨m0, rfl, hm0⟩ := nat_of r0 r1
    refine ⟨_, rfl, st, 4, rfl, w1.w1, by decide, by decide, fun H2 sh w2 sh0 sh1 => ?_⟩
    obtain ⟨sh, rfl, hsh⟩ := nat_of (n := 4) sh0 sh1
    refine ⟨_, rfl, st, 2, rfl, w2.w1, by decide, by decide, fun H3 ro w3 ro0 ro1 => ?_⟩
    refine fun d nd => ?_
    have w13 := w1.trans (w2.trans w3)
    have wA : Wd st H (upd H3 d (.dK [])) := w13.new nd
    have nd0 : H d = none := w13.free nd
    have nds : d ≠ st := Wd.ne hw nd0
    have ed : (upd H3 d (.dK [])) d = some (.dK []) := upd_same
    show ∃ v : V, _
    generalize upd H3 d (.dK []) = HA at wA ed ⊢
    obtain ⟨M, hM⟩ : ∃ M : Nat, M = 1 + m0 := ⟨_, rfl⟩
    have eM : (1 : Int) + ((m0 : Nat) : Int) = ((M : Nat) : Int) := by omega
    refine ⟨_, rfl, _, rfl, ?_⟩
    rw [eM]
    have en : (((M : Nat) : Int) - 0).toNat = M := by omega
    refine ⟨by omega, by omega, by omega, by omega, ?_⟩
    rw [en]
    refine for_rangeC (lo := (0 : Int) + ((M : Nat) : Int) - 1) (c := -1) (n := M) (fun i σ H3 => ∃ (y7 y8 y9 y10 y11 : Option V) (kvs : List (Key × V)) (F : Nat → Std1), σ = [some (.ref st), some (.ref pn), some (.int most), some (.int M), some (.int sh), some (.int ro), some (.ref d), y7, y8, y9, y10, y11] ∧ H3 d = some (.dK kvs) ∧ kvs.length ≤ i ∧ (∀ k, M - i ≤ k → k < M → ∃ v, valV kvs (.inl (k : Int)) = some v ∧ IsSd (· ≠ st) H3 v (F k)) ∧ StdP ls F (M - i) M ∧ Wd st H H3) ?_ ?_ ?_
    · exact ⟨none, none, none, none, none, [], fun _ => ([], []), by rw [← eM]; rfl, ed, Nat.le_refl _, fun k h1 h2 => by omega, ⟨fun k h1 h2 => by omega, fun k h1 h2 => by omega, fun k h1 h2 => by omega, fun k h1 h2 => by omega⟩, wA⟩
    · rintro i σ H3 hi ⟨y7, y8, y9, y10, y11, kvs, F, rfl, hd, kl, hF, hP, w3⟩
      have ek : (0 : Int) + ((M : Nat) : Int) - 1 + (i : Nat) * -1 = ((M - 1 - i : Nat) : Int) := by omega
      rw [ek]
      have hk1 : M - (i + 1) = M - 1 - i := by omega
      have hk2 : M - i = M - 1 - i + 1 := by omega
      have hk3 : M - 1 - i < M := by omega
      rw [hk2] at hF hP
      rw [hk1]
      generalize M - 1 - i = k at hF hP hk3 ⊢
      -- the steps
      refine ⟨_, rfl, _, _, rfl, rfl, _, rfl, _, _, rfl, ⟨by omega, by omega, by omega, by omega⟩, fun D nD => ?_⟩
      have nD0 := w3.free nD
      have nDs : D ≠ st := Wd.ne hw nD0
      have nDd : D ≠ d := (ne_of_none hd nD).symm
      refine lc_range (lo := ((k : Nat) : Int) + 1) (n := (((M : Nat) : Int) - (((k : Nat) : Int) + 1)).toNat) (fun j H4 => ∃ js : List Nat, H4 D = some (.lst (js.map fun u => V.int (u : Nat))) ∧ js.length ≤ j ∧ (∀ u ∈ js, k < u ∧ u < k + 1 + j) ∧ js.Pairwise (· < ·) ∧ Wd st H H4 ∧ Wd st H3 H4) ?_ ?_ ?_
      · exact ⟨[], upd_same, Nat.le_refl _, fun u h => (nomatch h), .nil, w3.new nD, (Wd.refl w3.w1).new nD⟩
      · rintro j H4 hj ⟨js, hD, jl, jb, jp, w4, w34⟩
        obtain ⟨m, hm, hm0', hm9⟩ := shape_at hsh
        refine ⟨rfl, _, rfl, sz4i, fun l nl => ⟨_, rfl, l, _, _, _, rfl, rfl, SqL.of upd_same, atI_nat hm, st, m, rfl, w4.w1.same (same_new nl), hm0', hm9, fun H5 r5 w5 _ _ => ⟨rfl, _, rfl, ?_⟩⟩⟩
        have w45 : Wd st H4 H5 := (Wd.of w4.w1 (same_new nl)).trans w5
        have hD5 := w45.bt _ _ nDs hD
        refine ite2 (fun _ => ?_) (fun _ => ?_)
        · refine ⟨_, rfl, _, hD5, ?_, js ++ [k + 1 + j], ?_, ?_, fun u hu => ?_, ?_, (w4.trans w45).put nD0, (w34.trans w45).put nD⟩
          · rw [List.length_map]
            exact small (by omega)
          · rw [upd_same, List.map_append]
            show _ = some (HO.lst (js.map (fun u : Nat => V.int (u : Nat)) ++ [V.int ((k + 1 + j : Nat) : Int)]))
            rw [show ((k : Nat) : Int) + 1 + (j : Nat) = ((k + 1 + j : Nat) : Int) by omega]
          · rw [List.length_append]
            exact Nat.succ_le_succ jl
          · rcases List.mem_append.mp hu with h | h
            · have := jb u h
              omega
            · rw [List.mem_singleton.mp h]
              omega
          · rw [List.pairwise_append]
            refine ⟨jp, List.pairwise_singleton _ _, fun x hx y hy => ?_⟩
            rw [List.mem_singleton.mp hy]
            exact (jb x hx).2
        · exact ⟨js, hD5, by omega, fun u hu => by have := jb u hu; omega, jp, w4.trans w45, w34.trans w45⟩
      · rintro H4 ⟨js, hD, jl, jb, jp, w4, w34⟩
        have hd4 := w34.bt _ _ nds hd
        have hF4 : ∀ j, k + 1 ≤ j → j < M → ∃ v, valV kvs (.inl (j : Int)) = some v ∧ IsSd (· ≠ st) H4 v (F j) := fun j a b => by
          obtain ⟨v, e, i⟩ := hF j a b
          exact ⟨v, e, i.wd w34⟩
        have jb4 : ∀ u ∈ js, k < u ∧ u < M := fun u hu => by
          have := jb u hu
          omega
        have jl4 : js.length ≤ 1000 := by omega
        -- if shape == 3
        refine ⟨fun σ' H' => ∃ (ps : Addr) (us : List Nat), σ' = [some (.ref st), some (.ref pn), some (.int most), some (.int M), some (.int sh), some (.int ro), some (.ref d), some (.int k), some (.ref ps), y9, y10, y11] ∧ H' ps = some (.lst (us.map fun u => V.int (u : Nat))) ∧ ps ≠ st ∧ us.length ≤ 1000 ∧ (∀ u ∈ us, k < u ∧ u < M) ∧ us.Pairwise (· < ·) ∧ Same H4 H', ?_, ?_⟩
        · refine ⟨_, rfl, rfl, _, rfl, ite2 (fun _ => ?_) (fun _ => ?_)⟩
          · refine ⟨_, rfl, 1, rfl, D, _, rfl, SqL.of hD, fun ps nps1 => ?_⟩
            refine ⟨ps, js.take 1, rfl, ?_, Wd.ne w4.w1 nps1, ?_, fun u hu => jb4 u (List.mem_of_mem_take hu), jp.sublist (List.take_sublist _ _), same_new nps1⟩
            · rw [upd_same, show cutV (js.map fun u : Nat => V.int (u : Nat)) none (some 1) = (js.map fun u : Nat => V.int (u : Nat)).take 1 from cut_to _ 1, List.map_take]
            · rw [List.length_take]
              omega
          · exact ⟨D, js, rfl, hD, nDs, jl4, jb4, jp, Same.refl _⟩
        · rintro σ' H5 ⟨ps, us, rfl, hps, npst, ul, ub, up, s5⟩
          -- if k == 0 and rooted == 0
          refine ⟨fun σ' H' => ∃ (ps : Addr) (us : List Nat), σ' = [some (.ref st), some (.ref pn), some (.int most), some (.int M), some (.int sh), some (.int ro), some (.ref d), some (.int k), some (.ref ps), y9, y10, y11] ∧ H' ps = some (.lst (us.map fun u => V.int (u : Nat))) ∧ ps ≠ st ∧ us.length ≤ 1000 ∧ (∀ u ∈ us, k < u ∧ u < M) ∧ us.Pairwise (· < ·) ∧ Same H4 H', ?_, ?_⟩
          · have keep : ∃ (ps' : Addr) (us : List Nat), [some (V.ref st), some (.ref pn), some (.int most), some (.int M), some (.int sh), some (.int ro), some (.ref d), some (.int k), some (.ref ps), y9, y10, y11] = [some (V.ref st), some (.ref pn), some (.int most), some (.int M), some (.int sh), some (.int ro), some (.ref d), some (.int k), some (.ref ps'), y9, y10, y11] ∧ H5 ps' = some (.lst (us.map fun u => V.int (u : Nat))) ∧ ps' ≠ st ∧ us.length ≤ 1000 ∧ (∀ u ∈ us, k < u ∧ u < M) ∧ us.Pairwise (· < ·) ∧ Same H4 H5 := ⟨ps, us, rfl, hps, npst, ul, ub, up, s5⟩
            refine ⟨_, rfl, rfl, _, rfl, ite2 (fun h0 => ?_) (fun _ => iteF keep)⟩
            refine ⟨_, rfl, rfl, _, rfl, ite2 (fun _ => ?_) (fun _ => keep)⟩
            have k0 : k = 0 := by
              have := V.int.inj (of_decide_eq_true h0)
              omega
            refine ⟨_, rfl, _, _, rfl, rfl, ⟨by omega, by omega, by omega, by omega, by omega⟩, fun pr npr => ?_⟩
            refine ⟨pr, (List.range (M - 1)).map fun x => 1 + x, rfl, ?_, Wd.ne (w4.w1.same s5) npr, ?_, fun u hu => ?_, ?_, s5.trans (same_new npr)⟩
            · rw [upd_same]
              unfold rgV
              rw [List.map_map, show (((M : Nat) : Int) - 1).toNat = M - 1 by omega]
              congr 2
            · rw [List.length_map, List.length_range]
              omega
            · obtain ⟨x, hx, rfl⟩ := List.mem_map.mp hu
              have := List.mem_range.mp hx
              omega
            · rw [List.pairwise_map]
              exact List.pairwise_lt_range.imp fun h => by omega
          · rintro σ' H6 ⟨ps, us, rfl, hps, npst, ul, ub, up, s6⟩
            have w06 := w4.then s6
            have hpn6 := w06.bt _ _ nps hpn
            have hd6 := s6 _ _ hd4
            have hF6 : ∀ j, k + 1 ≤ j → j < M → ∃ v, valV kvs (.inl (j : Int)) = some v ∧ IsSd (· ≠ st) H6 v (F j) := fun j a b => by
              obtain ⟨v, e, i⟩ := hF4 j a b
              exact ⟨v, e, i.same s6⟩
            -- the names that may be here
            refine ⟨_, rfl, pn, ls.map S, rfl, ?_, ?_, fun ys pz perm srt npz => ?_⟩
            · rw [← strs_nms]
              exact SqL.of hpn6
            · rw [List.length_map]
              exact hll
            obtain ⟨ms, rfl, hperm⟩ := perm_nms perm
            rw [← strs_nms]
            have ml : ms.length < 64 := by rw [hperm.length_eq]; exact hll
            have s7 : Same H6 (upd H6 pz (.lst (ms.map fun l => V.str (S l)))) := same_new npz
            have epz : (upd H6 pz (.lst (ms.map fun l => V.str (S l)))) pz = some (.lst (ms.map fun l => V.str (S l))) := upd_same
            show ∃ a, V.ref pz = .ref a ∧ _
            generalize upd H6 pz (.lst (ms.map fun l => V.str (S l))) = H7 at s7 epz ⊢
            refine ⟨pz, rfl, ⟨_, SqL.of epz⟩, fun D2 nD2 => ?_⟩
            refine lc_list (K := K) (a := pz) (xs := ms.map fun l => V.str (S l)) (fun j H8 => ∃ hs : List (List Nat), H8 D2 = some (.lst (hs.map fun l => V.str (S l))) ∧ hs.Sublist (ms.take j) ∧ (∀ n ∈ hs, ∀ u ∈ us, n ∈ (F u).1) ∧ Same H7 H8) ?_ ?_ ?_ ?_
            · exact ⟨[], upd_same, List.nil_sublist _, fun n h => (nomatch h), same_new nD2⟩
            · rintro j H8 _ ⟨_, _, _, _, s8⟩
              exact SqL.of (s8 _ _ epz)
            · rintro j x H8 hx ⟨hs, hD2, hsub, hcl, s8⟩
              rw [List.getElem?_map] at hx
              obtain ⟨n, hn, rfl⟩ := Option.map_eq_some_iff.mp hx
              have s68 := s7.trans s8
              refine ⟨rfl, _, rfl, ps, rfl, ⟨_, SqL.of (s68 _ _ hps)⟩, fun D3 nD3 => ?_⟩
              refine lc_list (K := K) (a := ps) (xs := us.map fun u => V.int (u : Nat)) (fun e H9 => H9 D3 = some (.lst (((us.take e).map fun u => decide (n ∈ (F u).1)).map V.bl)) ∧ Same H8 H9) ?_ ?_ ?_ ?_
              · exact ⟨upd_same, same_new nD3⟩
              · rintro e H9 _ ⟨_, s9⟩
                exact SqL.of (s9 _ _ (s68 _ _ hps))
              · rintro e x H9 hx ⟨hD3, s9⟩
                rw [List.getElem?_map] at hx
                obtain ⟨u, hu, rfl⟩ := Option.map_eq_some_iff.mp hx
                have hub := ub u (List.mem_of_getElem? hu)
                obtain ⟨v, ev, t, pa, pb, rfl, ht, hpa, hpb, _, _⟩ := hF6 u (by omega) hub.2
                have s69 := s68.trans s9
                refine ⟨rfl, _, rfl, _, rfl, _, rfl, d, .ref t, rfl, ev ▸ DGet.k (k := .inl (u : Int)) (s69 _ _ hd6), t, _, _, _, rfl, rfl, .inl (.inl (s69 _ _ ht)), at0, pa, _, rfl, .inl (SqL.of (s69 _ _ hpa)), rfl, flat_nm _, ?_⟩
                have eb : (if false = true then !inV (.str (S n)) ((F u).1.map fun l => V.str (S l)) else inV (.str (S n)) ((F u).1.map fun l => V.str (S l))) = decide (n ∈ (F u).1) := by
                  rw [if_neg (fun z => nomatch z), inV_nm]
                rw [eb]
                refine ⟨_, hD3, ?_, ?_, same_put s9 nD3⟩
                · rw [List.length_map, List.length_map, List.length_take]
                  exact small (by omega)
                · rw [upd_same, take_snoc hu, List.map_append, List.map_append]
                  rfl
              · rintro H9 ⟨hD3, s9⟩
                rw [List.length_map, List.take_length] at hD3
                refine ⟨D3, _, rfl, SqL.of hD3, _, rfl, ?_⟩
                have hD29 := s9 _ _ hD2
                have hl : hs.length ≤ j := Nat.le_trans hsub.length_le (by rw [List.length_take]; omega)
                have jl : j < ms.length := (List.getElem?_eq_some_iff.mp hn).1
                refine ite2 (fun hall => ?_) (fun _ => ?_)
                · refine ⟨_, rfl, _, hD29, ?_, hs ++ [n], ?_, ?_, fun m hm u hu => ?_, same_put (s8.trans s9) nD2⟩
                  · rw [List.length_map]
                    exact small (by omega)
                  · rw [upd_same, List.map_append]
                    rfl
                  · rw [take_snoc hn]
                    exact sub_snoc hsub
                  · rcases List.mem_append.mp hm with h | h
                    · exact hcl m h u hu
                    · rw [List.mem_singleton.mp h]
                      have := List.all_eq_true.mp hall _ (List.mem_map.mpr ⟨u, hu, rfl⟩)
                      exact of_decide_eq_true this
                · refine ⟨hs, hD29, ?_, hcl, s8.trans s9⟩
                  rw [take_snoc hn]
                  exact sub_more hsub
            · rintro H8 ⟨hs, hD2, hsub, hcl, s8⟩
              rw [List.length_map, List.take_length] at hsub
              have s68 := s7.trans s8
              have w08 := w06.then s68
              have hd8 := s68 _ _ hd6
              have hps8 := s68 _ _ hps
              have hl : hs.length < 64 := Nat.lt_of_le_of_lt hsub.length_le ml
              -- the names that are here
              refine ⟨_, rfl, D2, rfl, ⟨_, SqL.of hD2⟩, fun D4 nD4 => ?_⟩
              have nD40 := w08.free nD4
              have nD4s : D4 ≠ st := Wd.ne hw nD40
              have nD4d : D4 ≠ d := (ne_of_none hd8 nD4).symm
              have nD2s : D2 ≠ st := Wd.ne (w06.w1.same s7) nD2
              refine lc_list (K := K) (a := D2) (xs := hs.map fun l => V.str (S l)) (fun j H9 => ∃ ns : List (List Nat), H9 D4 = some (.lst (ns.map fun l => V.str (S l))) ∧ ns.Sublist (hs.take j) ∧ Wd st H8 H9) ?_ ?_ ?_ ?_
              · exact ⟨[], upd_same, List.nil_sublist _, (Wd.refl w08.w1).new nD4⟩
              · rintro j H9 _ ⟨_, _, _, w9⟩
                exact SqL.of (w9.bt _ _ nD2s hD2)
              · rintro j x H9 hx ⟨ns, hD4, nsub, w9⟩
                rw [List.getElem?_map] at hx
                obtain ⟨n, hn, rfl⟩ := Option.map_eq_some_iff.mp hx
                have jl : j < hs.length := (List.getElem?_eq_some_iff.mp hn).1
                have nl : ns.length ≤ j := Nat.le_trans nsub.length_le (by rw [List.length_take]; omega)
                refine ⟨rfl, _, rfl, st, 3, rfl, w9.w1, by decide, by decide, fun H5 r w5 _ _ => ⟨_, _, rfl, rfl, _, rfl, ?_⟩⟩
                have hD45 := w5.bt _ _ nD4s hD4
                refine ite2 (fun _ => ?_) (fun _ => ?_)
                · refine ⟨_, rfl, _, hD45, ?_, ns ++ [n], ?_, ?_, (w9.trans w5).put nD4⟩
                  · rw [List.length_map]
                    exact small (by omega)
                  · rw [upd_same, List.map_append]
                    rfl
                  · rw [take_snoc hn]
                    exact sub_snoc nsub
                · refine ⟨ns, hD45, ?_, w9.trans w5⟩
                  rw [take_snoc hn]
                  exact sub_more nsub
              · rintro H9 ⟨ns, hD4, nsub, w9⟩
                rw [List.length_map, List.take_length] at nsub
                have hd9 := w9.bt _ _ nds hd8
                have hps9 := w9.bt _ _ npst hps8
                refine ⟨_, rfl, sz2, fun t nt => ⟨_, rfl, _, rfl, d, _, rfl, DPut.k (k := .inl (k : Int)) (same_new nt _ _ hd9) (small (by omega)), ?_⟩⟩
                have w49 : Wd st H3 H9 := w34.trans ((Wd.of w4.w1 (s6.trans s68)).trans w9)
                have w39 : Wd st H3 (upd H9 t (.tup [.ref D4, .ref ps])) := w49.new nt
                have ntd : t ≠ d := (ne_of_none hd9 nt).symm
                have nD4d' : (upd (upd H9 t (.tup [.ref D4, .ref ps])) d (.dK (putK kvs (.inl (k : Int)) (.ref t)))) D4 = some (.lst (ns.map fun l => V.str (S l))) := by
                  rw [upd_ne nD4d]
                  exact same_new nt _ _ hD4
                have npd : ps ≠ d := ne_of (same_new (o := .tup [.ref D4, .ref ps]) nt _ _ hps9) (same_new (o := .tup [.ref D4, .ref ps]) nt _ _ hd9) (by intro z; cases z)
                have wfin : Wd st H (upd (upd H9 t (.tup [.ref D4, .ref ps])) d (.dK (putK kvs (.inl (k : Int)) (.ref t)))) := (w3.trans w39).put nd0
                have tsd : ∀ v s, IsSd (· ≠ st) H3 v s → IsSd (· ≠ st) (upd (upd H9 t (.tup [.ref D4, .ref ps])) d (.dK (putK kvs (.inl (k : Int)) (.ref t)))) v s := fun v s h => by
                  obtain ⟨a, b, c, k0, k1, k2, k3, k4, k5⟩ := h.wd w39
                  have hd' := same_new (o := .tup [.ref D4, .ref ps]) nt _ _ hd9
                  refine ⟨a, b, c, k0, ?_, ?_, ?_, k4, k5⟩
                  · rw [upd_ne (ne_of k1 hd' (by intro z; cases z))]
                    exact k1
                  · rw [upd_ne (ne_of k2 hd' (by intro z; cases z))]
                    exact k2
                  · rw [upd_ne (ne_of k3 hd' (by intro z; cases z))]
                    exact k3
                refine ⟨_, _, _, _, _, putK kvs (.inl (k : Int)) (.ref t), setF F k (ns, us), rfl, upd_same, ?_, fun j h1 h2 => ?_, hP.step hk3 ub up (fun u hu n hn => hcl n (nsub.subset hn) u hu) ⟨ms, hperm, srt, nsub.trans hsub⟩, wfin⟩
                · have := length_putK kvs (.inl (k : Int)) (.ref t)
                  omega
                · rw [valV_put]
                  by_cases e : j = k
                  · subst e
                    rw [if_pos rfl, setF_self]
                    refine ⟨_, rfl, t, D4, ps, rfl, ?_, nD4d', ?_, nD4s, npst⟩
                    · rw [upd_ne ntd]
                      exact upd_same
                    · rw [upd_ne npd]
                      exact same_new nt _ _ hps9
                  · have e2 : ¬ (Sum.inl ((j : Nat) : Int) : Key) = .inl ((k : Nat) : Int) := fun z => e (by injection z with z; omega)
                    rw [if_neg e2, setF_ne e]
                    obtain ⟨v, ev, iv⟩ := hF j (by omega) h2
                    exact ⟨v, ev, tsd v _ iv⟩
    · rintro σ H3 ⟨y7, y8, y9, y10, y11, kvs, F, rfl, hd, kl, hF, hP, w3⟩
      rw [Nat.sub_self] at hF hP
      refine ⟨_, rfl, _, rfl, by omega, by omega, fun D nD => ?_⟩
      have nD0 := w3.free nD
      have nDs : D ≠ st := Wd.ne hw nD0
      refine lc_range (lo := 0) (n := M) (fun j H4 => ∃ vs : List V, H4 D = some (.lst vs) ∧ Paired (IsSd (· ≠ st) H3) vs ((List.range j).map F) ∧ Same H3 H4) ?_ ?_ ?_
      · exact ⟨[], upd_same, .nil, same_new nD⟩
      · rintro j H4 hj ⟨vs, hD, pv, s4⟩
        obtain ⟨v, ev, iv⟩ := hF j (Nat.zero_le _) hj
        have nDd := (ne_of_none hd nD).symm
        refine ⟨rfl, _, rfl, _, rfl, d, v, rfl, ?_, vs, hD, ?_, vs ++ [v], upd_same, ?_, same_put s4 nD⟩
        · rw [Int.zero_add, ← ev]
          exact DGet.k (k := .inl (j : Int)) (s4 _ _ hd)
        · have := pair_len pv
          rw [List.length_map, List.length_range] at this
          exact small (by omega)
        · rw [List.range_succ, List.map_append]
          exact pair_app pv (.cons iv .nil)
      · rintro H4 ⟨vs, hD, pv, s4⟩
        exact q H4 D _ (w3.then s4) nD0 ⟨⟨vs, hD, pair_map (fun _ _ h => h.same s4) pv⟩, nDs⟩ hP.good (by rw [List.length_map, List.length_range]; omega) (by rw [List.length_map, List.length_range]; omega)
/-! ### _law_copied -/
def sp_law_copied (K : PySem.W.Frag) : Sp := fun vs H Q _ => ∃ (p : Addr) (g : Gr), vs = [.ref p] ∧ IsGr (fun _ => True) H p g ∧ g.length ≤ 90000 ∧ (∀ s ∈ g, s.1.length ≤ 90000 ∧ s.2.length ≤ 90000) ∧ ∀ H' L, Same H H' → IsGr (fun x => H x = none) H' L g → Q (.ref L) H'
theorem ok_law_copied (T : Txt w K mg) : Cl P w K mg base 1 "_law_copied" (sp_law_copied K) := by
  refine T.d_law_copied.ok sc_law_copied (fun vs H Q E h => ?_) (fun f cdv A outer s H vs Q E hr h => ?_)
  · obtain ⟨p, g, rfl, _⟩ := h
    rfl
  · obtain ⟨p, g, rfl, ⟨⟨ws, hp, pw⟩, _⟩, hl, hl2, q⟩ := h
    refine ⟨_, (pss_one (ps_ret (pe_lc (own := [("_law_names_here", 1), ("_law_steps", 2)]) rfl sc_law_copied.nd (pi_listK (K := K) (pv 0)) (blkOk_by (N := sc_law_copiedN) (sc := defScope s_law_copied) (by decide +kernel)) (fun _ _ _ _ _ => (pg_tupK (K := K) (n := 2) rfl (pgs_cons (pg_name (i := 1) sc_law_copied.nd rfl (Or.inl rfl)) (pgs_cons (pg_name (i := 2) sc_law_copied.nd rfl (Or.inl rfl)) pgs_nil)))) (fun _ _ _ _ _ => pts_nil) (fun _ _ _ _ _ => (pe_tup (pa_cons (pe_callTy (r := rListK K) call_list_of rfl T.n_list (by decide +kernel) (pa_cons (pv 1) pa_nil)) (pa_cons (pe_callTy (r := rListK K) call_list_of rfl T.n_list (by decide +kernel) (pa_cons (pv 2) pa_nil)) pa_nil))))))), ?_⟩
    have wl : ws.length = g.length := pair_len pw
    refine ⟨_, rfl, p, rfl, ⟨_, SqL.of hp⟩, fun D nD => ?_⟩
    refine lc_list (K := K) (a := p) (xs := ws) (fun i H3 => ∃ vs : List V, H3 D = some (.lst vs) ∧ Paired (IsSd (fun x => H x = none ∧ x ≠ D) H3) vs (g.take i) ∧ Same H H3) ?_ ?_ ?_ ?_
    · exact ⟨[], upd_same, .nil, same_new nD⟩
    · rintro i H3 _ ⟨_, _, _, s3⟩
      exact SqL.of (s3 _ _ hp)
    · rintro i x H3 hx ⟨vs, hD, pv, s3⟩
      obtain ⟨s, hs, t, pn, pu, rfl, ht, hpn, hpu, _, _⟩ := pair_get pw hx
      have hsm := List.mem_of_getElem? hs
      have il : i < g.length := (List.getElem?_eq_some_iff.mp hs).1
      refine ⟨t, _, rfl, .inl (.inl (s3 _ _ ht)), rfl, _, _, rfl, _, _, rfl, rfl, rfl, _, rfl, pn, _, rfl, .inl (SqL.of (s3 _ _ hpn)), fun a na => ?_⟩
      have s4 : Same H3 (upd H3 a (.lst (s.1.map fun n => V.str (S n)))) := same_new na
      have ea : (upd H3 a (.lst (s.1.map fun n => V.str (S n)))) a = some (.lst (s.1.map fun n => V.str (S n))) := upd_same
      show ∃ v : V, _
      generalize upd H3 a (.lst (s.1.map fun n => V.str (S n))) = H4 at s4 ea ⊢
      refine ⟨_, rfl, pu, _, rfl, .inl (SqL.of (s4 _ _ (s3 _ _ hpu))), fun b nb => ?_⟩
      have s5 : Same H4 (upd H4 b (.lst (s.2.map fun u => V.int (u : Nat)))) := same_new nb
      have eb : (upd H4 b (.lst (s.2.map fun u => V.int (u : Nat)))) b = some (.lst (s.2.map fun u => V.int (u : Nat))) := upd_same
      have ea5 := s5 _ _ ea
      show _ ∧ _
      generalize upd H4 b (.lst (s.2.map fun u => V.int (u : Nat))) = H5 at s5 eb ea5 ⊢
      refine ⟨sz2, fun c nc => ?_⟩
      have s6 : Same H5 (upd H5 c (.tup [.ref a, .ref b])) := same_new nc
      have ec : (upd H5 c (.tup [.ref a, .ref b])) c = some (.tup [.ref a, .ref b]) := upd_same
      have ea6 := s6 _ _ ea5
      have eb6 := s6 _ _ eb
      generalize upd H5 c (.tup [.ref a, .ref b]) = H6 at s6 ec ea6 eb6
      have s36 := s4.trans (s5.trans s6)
      have hD6 := s36 _ _ hD
      have na0 : H a = none := s3.free na
      have nb0 : H b = none := (s3.trans s4).free nb
      have naD : a ≠ D := (ne_of_none hD na).symm
      have nbD : b ≠ D := (ne_of_none (s4 _ _ hD) nb).symm
      have lv : vs.length ≤ i := by
        have := pair_len pv
        rw [List.length_take] at this
        omega
      refine ⟨_, hD6, small (by omega), vs ++ [.ref c], upd_same, ?_, same_put (s3.trans s36) nD⟩
      rw [take_snoc hs]
      have tr : ∀ (v : V) (s : Std1), IsSd (fun x => H x = none ∧ x ≠ D) H6 v s → IsSd (fun x => H x = none ∧ x ≠ D) (upd H6 D (.lst (vs ++ [.ref c]))) v s := fun v s h => by
        obtain ⟨t, pn, pu, k0, k1, k2, k3, k4, k5⟩ := h
        refine ⟨t, pn, pu, k0, ?_, ?_, ?_, k4, k5⟩
        · rw [upd_ne (ne_of k1 hD6 (by intro z; cases z))]
          exact k1
        · rw [upd_ne k4.2]
          exact k2
        · rw [upd_ne k5.2]
          exact k3
      exact pair_app (pair_map (fun v s h => tr v s (h.same s36)) pv) (.cons (tr _ _ ⟨c, a, b, rfl, ec, ea6, eb6, ⟨na0, naD⟩, ⟨nb0, nbD⟩⟩) .nil)
    · rintro H3 ⟨vs, hD, pv, s3⟩
      rw [wl, List.take_length] at pv
      refine q H3 D s3 ⟨⟨vs, hD, pair_map (fun v s h => ?_) pv⟩, nD⟩
      obtain ⟨t, pn, pu, k0, k1, k2, k3, k4, k5⟩ := h
      exact ⟨t, pn, pu, k0, k1, k2, k3, k4.1, k5.1⟩
/-! ### _law_reach -/
def sp_law_reach (K : PySem.W.Frag) : Sp := fun vs H Q _ => ∃ (p : Addr) (g : Gr), vs = [.ref p] ∧ IsGr (fun _ => True) H p g ∧ g.ok ∧ g.length ≤ 200 ∧ (∀ s ∈ g, s.2.length ≤ 1000) ∧ ∀ H' d, Same H H' → RcOk (fun x => H x = none) g H' d → Q (.ref d) H'
theorem ok_law_reach (T : Txt w K mg) : Cl P w K mg base 1 "_law_reach" (sp_law_reach K) := by
  refine T.d_law_reach.ok sc_law_reach (fun vs H Q E h => ?_) (fun f cdv A outer s H vs Q E hr h => ?_)
  · obtain ⟨p, g, rfl, _⟩ := h
    rfl
  · obtain ⟨p, g, rfl, ⟨⟨ws, hp, pw⟩, _⟩, ok, hl, hl2, q⟩ := h
    refine ⟨_, (pss_cons (ps_set (i := 1) sc_law_reach.nd rfl (Or.inl rfl) pe_dnewK)
    (pss_cons (ps_for PassesOwn.never rfl (pi_revR rfl T.n_reversed (prg_1 rfl T.n_range (pe_callB (r := rLenK K) call_len_seq rfl T.n_len (by decide +kernel) (pa_cons (pv 0) pa_nil)))) (pg_name (i := 2) sc_law_reach.nd rfl (Or.inl rfl))
      (pss_cons (ps_set (i := 3) sc_law_reach.nd rfl (Or.inr rfl) (pe_lst (pa_cons (pv 2) pa_nil)))
        (pss_cons (ps_for PassesOwn.never rfl (pi_listK (K := K) (pe_ix (r := rIxT K) ix_tup (pe_ix (r := rIxL K) ix_list (pv 0) (pv 2) (fun _ _ => rfl)) pe_int (fun _ _ => rfl))) (pg_name (i := 4) sc_law_reach.nd rfl (Or.inl rfl))
          (pss_one (ps_set (i := 3) sc_law_reach.nd rfl (Or.inr rfl) (pe_op op_cat (pv 3) (pe_lc (own := [("_law_one", 5)]) rfl sc_law_reach.nd (pi_listK (K := K) (pe_dget (hu_of hr) (pv 1) (pv 4) (fun _ _ => rfl))) (blkOk_by (N := sc_law_reachN) (sc := defScope s_law_reach) (by decide +kernel)) (fun _ _ _ _ _ => (pg_name (i := 5) sc_law_reach.nd rfl (Or.inl rfl))) (fun _ _ _ _ _ => (pts_one (pt_cmpR (r := rIn K true) op_notIn_seq (pv 5) (pv 3) (by rfl)))) (fun _ _ _ _ _ => (pv 5)))))))
        (pss_one (ps_dput (hu_of hr) (pv 1) (pv 2) (pe_callB (r := rSortedI K) cr_sortedI rfl T.n_sorted (by decide +kernel) (pa_cons (pv 3) pa_nil)) rfl)))))
    (pss_one (ps_ret (pv 1))))), ?_⟩
    have wl : ws.length = g.length := pair_len pw
    refine fun d nd => ?_
    have s1 : Same H (upd H d (.dK [])) := same_new nd
    have ed : (upd H d (.dK [])) d = some (.dK []) := upd_same
    show ∃ v : V, _
    generalize upd H d (.dK []) = H1 at s1 ed ⊢
    refine ⟨_, rfl, p, ws, rfl, .inl (SqL.of (s1 _ _ hp)), _, rfl, by omega, by omega, by omega, by omega, ?_⟩
    have en : (((ws.length : Nat) : Int) - 0).toNat = g.length := by omega
    rw [en]
    refine for_rangeC (lo := (0 : Int) + ((g.length : Nat) : Int) - 1) (c := -1) (n := g.length) (fun i σ H3 => ∃ (y2 y3 y4 y5 : Option V) (kvs : List (Key × V)), σ = [some (.ref p), some (.ref d), y2, y3, y4, y5] ∧ H3 d = some (.dK kvs) ∧ (∀ q ∈ kvs, ∃ j : Nat, q.1 = .inl (j : Int) ∧ j < g.length) ∧ kvs.length ≤ i ∧
      (∀ k, g.length - i ≤ k → k < g.length → ∃ (l : Addr) (ks : List Nat), valV kvs (.inl (k : Int)) = some (.ref l) ∧ H3 l = some (.lst (ks.map fun x => V.int (x : Nat))) ∧ (∀ x, x ∈ ks ↔ Rch g k x) ∧ ks.Nodup ∧ ks.Pairwise (· ≤ ·) ∧ H l = none) ∧ Same H H3) ?_ ?_ ?_
    · exact ⟨_, _, _, _, [], rfl, ed, fun q h => (nomatch h), Nat.le_refl _, fun k h1 h2 => by omega, s1⟩
    · rintro i σ H3 hi ⟨y2, y3, y4, y5, kvs, rfl, hd, hkey, kl, hF, s3⟩
      have ek : (0 : Int) + ((g.length : Nat) : Int) - 1 + (i : Nat) * -1 = ((g.length - 1 - i : Nat) : Int) := by omega
      rw [ek]
      have hk1 : g.length - (i + 1) = g.length - 1 - i := by omega
      have hk2 : g.length - i = g.length - 1 - i + 1 := by omega
      have hk3 : g.length - 1 - i < g.length := by omega
      rw [hk2] at hF
      rw [hk1]
      generalize g.length - 1 - i = k at hF hk3 ⊢
      obtain ⟨sd, hsd⟩ : ∃ sd, g[k]? = some sd := ⟨g[k], List.getElem?_eq_getElem hk3⟩
      obtain ⟨x, hx, t, pn, pu, rfl, ht, hpn, hpu, _, _⟩ := pair_at pw hsd
      have hul := hl2 sd (List.mem_of_getElem? hsd)
      refine ⟨_, rfl, sz1, fun o no => ?_⟩
      have s4 : Same H3 (upd H3 o (.lst [.int (k : Nat)])) := same_new no
      have eo : (upd H3 o (.lst [.int (k : Nat)])) o = some (.lst [.int (k : Nat)]) := upd_same
      have no0 : H o = none := s3.free no
      show ∃ v : V, _
      generalize upd H3 o (.lst [.int (k : Nat)]) = H4 at s4 eo ⊢
      refine ⟨_, rfl, _, rfl, p, ws, _, _, rfl, rfl, SqL.of (s4 _ _ (s3 _ _ hp)), atI_nat hx, t, _, _, _, rfl, rfl, .inl (.inl (s4 _ _ (s3 _ _ ht))), at1, pu, rfl, ⟨_, SqL.of (s4 _ _ (s3 _ _ hpu))⟩, ?_⟩
      refine for_list (K := K) (a := pu) (xs := sd.2.map fun u => V.int (u : Nat)) (fun j σ H5 => ∃ (y4 : Option V) (o : Addr) (ks : List Nat), σ = [some (.ref p), some (.ref d), some (.int (k : Nat)), some (.ref o), y4, y5] ∧ H5 o = some (.lst (ks.map fun x => V.int (x : Nat))) ∧ ks.Nodup ∧ (∀ x, x ∈ ks ↔ (x = k ∨ ∃ u ∈ sd.2.take j, Rch g u x)) ∧ Same H4 H5 ∧ H o = none) ?_ ?_ ?_ ?_
      · exact ⟨_, o, [k], rfl, eo, by simp, fun x => by simp, Same.refl _, no0⟩
      · rintro j σ H5 _ ⟨_, _, _, _, _, _, _, s5, _⟩
        exact SqL.of (s5 _ _ (s4 _ _ (s3 _ _ hpu)))
      · rintro j x σ H5 hxj ⟨y4, o, ks, rfl, ho, knd, kmem, s5, no0⟩
        rw [List.getElem?_map] at hxj
        obtain ⟨u, hu, rfl⟩ := Option.map_eq_some_iff.mp hxj
        have oku := ok k sd hsd u (List.mem_of_getElem? hu)
        obtain ⟨l, us, ev, hl0, umem, und, _, nl0⟩ := hF u (by omega) oku.2
        have s35 := s4.trans s5
        have hl5 := s35 _ _ hl0
        have kb : ∀ x ∈ ks, x < g.length := fun x hx => by
          rcases (kmem x).mp hx with rfl | ⟨v, hv, r⟩
          · exact hk3
          · exact r.lt ok (ok k sd hsd v (List.mem_of_mem_take hv)).2
        have klen := nodup_le _ _ knd kb
        have ulen := nodup_le _ _ und (fun x hx => ((umem x).mp hx).lt ok oku.2)
        refine ⟨_, rfl, _, rfl, _, rfl, d, .ref l, rfl, ev ▸ DGet.k (k := .inl (u : Int)) (s35 _ _ hd), l, rfl, ⟨_, SqL.of hl5⟩, fun D nD => ?_⟩
        have nDd := nD
        refine lc_list (K := K) (a := l) (xs := us.map fun x => V.int (x : Nat)) (fun e H6 => H6 D = some (.lst (((us.take e).filter fun x => decide (x ∉ ks)).map fun x => V.int (x : Nat))) ∧ Same H5 H6) ?_ ?_ ?_ ?_
        · exact ⟨upd_same, same_new nD⟩
        · rintro e H6 _ ⟨_, s6⟩
          exact SqL.of (s6 _ _ hl5)
        · rintro e x H6 hxe ⟨hD, s6⟩
          rw [List.getElem?_map] at hxe
          obtain ⟨z, hz, rfl⟩ := Option.map_eq_some_iff.mp hxe
          refine ⟨rfl, _, rfl, _, rfl, o, _, rfl, .inl (SqL.of (s6 _ _ ho)), rfl, flat_int _, _, rfl, ?_⟩
          have eb : (if true = true then !inV (.int (z : Nat)) (ks.map fun x => V.int (x : Nat)) else inV (.int (z : Nat)) (ks.map fun x => V.int (x : Nat))) = decide (z ∉ ks) := by
            rw [if_pos rfl, inV_int]
            by_cases h : z ∈ ks <;> simp [h]
          rw [eb]
          refine ite2 (fun h => ?_) (fun h => ?_)
          · refine ⟨_, rfl, _, hD, ?_, ?_, same_put s6 nD⟩
            · rw [List.length_map]
              have h1 := List.length_filter_le (fun x => decide (x ∉ ks)) (us.take e)
              rw [List.length_take] at h1
              exact small (by omega)
            · rw [upd_same, take_snoc hz, List.filter_append, List.map_append]
              simp [of_decide_eq_true h]
          · refine ⟨?_, s6⟩
            rw [hD, take_snoc hz, List.filter_append]
            have : ¬ (z ∉ ks) := fun q => h (decide_eq_true q)
            simp [this]
        · rintro H6 ⟨hD, s6⟩
          rw [List.length_map, List.take_length] at hD
          refine ⟨o, D, _, _, rfl, rfl, s6 _ _ ho, hD, ?_, fun q nq => ?_⟩
          · rw [List.length_map, List.length_map]
            have h1 := List.length_filter_le (fun x => decide (x ∉ ks)) us
            exact small' (by omega)
          · refine ⟨_, q, ks ++ us.filter fun x => decide (x ∉ ks), rfl, by rw [upd_same, List.map_append], ?_, fun x => ?_, s5.trans (s6.trans (same_new nq)), (s3.trans (s35.trans s6)).free nq⟩
            · rw [List.nodup_append]
              refine ⟨knd, und.filter _, fun a ha b hb e => ?_⟩
              have := (List.mem_filter.mp hb).2
              exact of_decide_eq_true this (e ▸ ha)
            · rw [List.mem_append, List.mem_filter, take_snoc hu]
              constructor
              · rintro (h | h)
                · rcases (kmem x).mp h with h | ⟨v, h1, h2⟩
                  · exact .inl h
                  · exact .inr ⟨v, List.mem_append_left _ h1, h2⟩
                · exact .inr ⟨u, List.mem_append_right _ (List.mem_singleton.mpr rfl), (umem x).mp h.1⟩
              · rintro (h | ⟨v, h1, h2⟩)
                · exact .inl ((kmem x).mpr (.inl h))
                · rcases List.mem_append.mp h1 with h1 | h1
                  · exact .inl ((kmem x).mpr (.inr ⟨v, h1, h2⟩))
                  · rw [List.mem_singleton.mp h1] at h2
                    by_cases h : x ∈ ks
                    · exact .inl h
                    · exact .inr ⟨(umem x).mpr h2, decide_eq_true h⟩
      · rintro σ H5 ⟨y4, o, ks, rfl, ho, knd, kmem, s5, no0⟩
        rw [List.length_map, List.take_length] at kmem
        have s35 := s4.trans s5
        refine ⟨_, rfl, o, ks.map (fun k : Nat => (k : Int)), rfl, by rw [← ints_nat]; exact SqL.of ho, fun ns pz perm srt npz => ?_⟩
        obtain ⟨ms, rfl, hperm⟩ := perm_nats perm
        have hd5 := same_new (o := .lst ((ms.map fun k : Nat => (k : Int)).map V.int)) npz _ _ (s35 _ _ hd)
        refine ⟨_, rfl, _, rfl, d, _, rfl, DPut.k (k := .inl (k : Int)) hd5 (small (by omega)), ?_⟩
        have npz0 : H pz = none := (s3.trans s35).free npz
        have npd : pz ≠ d := (ne_of_none (s35 _ _ hd) npz).symm
        refine ⟨_, _, _, _, putK kvs (.inl (k : Int)) (.ref pz), rfl, upd_same, fun q hq => ?_, ?_, fun j h1 h2 => ?_, same_put ((s3.trans s35).trans (same_new npz)) nd⟩
        · unfold putK at hq
          split at hq
          · obtain ⟨q', hq', rfl⟩ := List.mem_map.mp hq
            obtain ⟨j, e, hj⟩ := hkey q' hq'
            by_cases e2 : q'.1 = .inl (k : Int)
            · rw [if_pos e2]
              exact ⟨j, e, hj⟩
            · rw [if_neg e2]
              exact ⟨j, e, hj⟩
          · rcases List.mem_append.mp hq with h | h
            · exact hkey q h
            · rw [List.mem_singleton.mp h]
              exact ⟨k, rfl, hk3⟩
        · have := length_putK kvs (.inl (k : Int)) (.ref pz)
          omega
        · rw [valV_put]
          by_cases e : j = k
          · subst e
            rw [if_pos rfl]
            refine ⟨pz, ms, rfl, ?_, fun x => ?_, hperm.nodup_iff.mpr knd, ?_, npz0⟩
            · rw [upd_ne npd, upd_same, ints_nat]
            · rw [hperm.mem_iff, kmem, rch_iff hsd]
            · rw [List.pairwise_map] at srt
              exact srt.imp fun h => by omega
          · have e2 : ¬ (Sum.inl ((j : Nat) : Int) : Key) = .inl ((k : Nat) : Int) := fun z => e (by injection z with z; omega)
            rw [if_neg e2]
            obtain ⟨l, us, ev, hl0, r⟩ := hF j (by omega) h2
            refine ⟨l, us, ev, ?_, r⟩
            have hl5 := same_new (o := .lst ((ms.map fun k : Nat => (k : Int)).map V.int)) npz _ _ (s35 _ _ hl0)
            rw [upd_ne (ne_of hl5 hd5 (by intro z; cases z))]
            exact hl5
    · rintro σ H3 ⟨y2, y3, y4, y5, kvs, rfl, hd, hkey, kl, hF, s3⟩
      exact ⟨_, rfl, q H3 d s3 ⟨⟨kvs, hd, hkey, kl, fun k hk => hF k (by omega) hk⟩, nd⟩⟩
/-! ### _law_truths -/
def sp_law_truths (K : PySem.W.Frag) (n : Nat) : Sp := fun vs H Q _ => ∃ (p d : Addr) (g : Gr) (v : V) (a : Sm), vs = [.ref p, .ref d, v] ∧ IsGr (fun _ => True) H p g ∧ RcOk (fun _ => True) g H d ∧ g.ok ∧ g.length ≤ 200 ∧ IsSm K H v a ∧ a.dp < n ∧
  ∀ H' D (bs : List Bool), Same H H' → H D = none → H' D = some (.lst (bs.map V.bl)) → BsOk g a g.length bs → Q (.ref D) H'
theorem ok_law_truths (T : Txt w K mg) : ∀ n : Nat, Cl P w K mg base n "_law_truths" (sp_law_truths K n)
  | 0 => T.d_law_truths.none fun vs H Q E h => by
    obtain ⟨_, _, _, _, _, _, _, _, _, _, _, h, _⟩ := h
    omega
  | n + 1 => by
    have c__law_truths : Cl P w K mg base n "_law_truths" (sp_law_truths K n) := ok_law_truths T n
    refine T.d_law_truths.ok sc_law_truths (fun vs H Q E h => ?_) (fun f cdv A outer s H vs Q E hr h => ?_)
    · obtain ⟨p, d, g, v, a, rfl, _⟩ := h
      rfl
    · obtain ⟨p, d, g, v, a, rfl, hg, hrc, ok, hl, ia, hd, q⟩ := h
      obtain ⟨⟨ws, hp, pw⟩, _⟩ := id hg
      have wl : ws.length = g.length := pair_len pw
      refine ⟨_, (pss_cons (ps_if (pt_cmpR op_eq (pe_ix (r := rIxT K) ix_tup (pv 2) pe_int (fun _ _ => rfl)) pe_str (nomark _))
      (pss_one (ps_ret (pe_lc (own := [("_law_names_here", 6), ("_law_steps", 7)]) rfl sc_law_truths.nd (pi_listK (K := K) (pv 0)) (blkOk_by (N := sc_law_truthsN) (sc := defScope s_law_truths) (by decide +kernel)) (fun _ _ _ _ _ => (pg_tupK (K := K) (n := 2) rfl (pgs_cons (pg_name (i := 6) sc_law_truths.nd rfl (Or.inl rfl)) (pgs_cons (pg_name (i := 7) sc_law_truths.nd rfl (Or.inl rfl)) pgs_nil)))) (fun _ _ _ _ _ => pts_nil) (fun _ _ _ _ _ => (pe_cmpR (r := rIn K false) op_in_seq (pe_ix (r := rIxT K) ix_tup (pv 2) pe_int (fun _ _ => rfl)) (pv 6) (by rfl))))))
      pss_nil)
    (pss_cons (ps_if (pt_cmpR op_eq (pe_ix (r := rIxT K) ix_tup (pv 2) pe_int (fun _ _ => rfl)) pe_str (nomark _))
      (pss_one (ps_ret (pe_lc (own := [("_law_stand", 8)]) rfl sc_law_truths.nd (pi_listK (K := K) (pv 0)) (blkOk_by (N := sc_law_truthsN) (sc := defScope s_law_truths) (by decide +kernel)) (fun _ _ _ _ _ => (pg_name (i := 8) sc_law_truths.nd rfl (Or.inl rfl))) (fun _ _ _ _ _ => pts_nil) (fun _ _ _ _ _ => pe_bl))))
      pss_nil)
    (pss_cons (ps_set (i := 3) sc_law_truths.nd rfl (Or.inr rfl) (pe_k c__law_truths hr (by omega) rfl (pa_cons (pv 0) (pa_cons (pv 1) (pa_cons (pe_ix (r := rIxT K) ix_tup (pv 2) pe_int (fun _ _ => rfl)) pa_nil)))))
    (pss_cons (ps_set (i := 4) sc_law_truths.nd rfl (Or.inr rfl) (pe_k c__law_truths hr (by omega) rfl (pa_cons (pv 0) (pa_cons (pv 1) (pa_cons (pe_ix (r := rIxT K) ix_tup (pv 2) pe_int (fun _ _ => rfl)) pa_nil)))))
    (pss_cons (ps_if (pt_cmpR op_eq (pe_ix (r := rIxT K) ix_tup (pv 2) pe_int (fun _ _ => rfl)) pe_str (nomark _))
      (pss_one (ps_ret (pe_lc (own := [("_law_k", 5)]) rfl sc_law_truths.nd (pi_range1 rfl T.n_range (pa_cons (pe_callB (r := rLenK K) call_len_seq rfl T.n_len (by decide +kernel) (pa_cons (pv 0) pa_nil)) pa_nil)) (blkOk_by (N := sc_law_truthsN) (sc := defScope s_law_truths) (by decide +kernel)) (fun _ _ _ _ _ => (pg_name (i := 5) sc_law_truths.nd rfl (Or.inl rfl))) (fun _ _ _ _ _ => pts_nil) (fun _ _ _ _ _ => (pe_and (pe_ix (r := rIxL K) ix_list (pv 3) (pv 5) (fun _ _ => rfl)) (pe_one (pe_ix (r := rIxL K) ix_list (pv 4) (pv 5) (fun _ _ => rfl))))))))
      pss_nil)
    (pss_cons (ps_if (pt_cmpR op_eq (pe_ix (r := rIxT K) ix_tup (pv 2) pe_int (fun _ _ => rfl)) pe_str (nomark _))
      (pss_one (ps_ret (pe_lc (own := [("_law_k", 5)]) rfl sc_law_truths.nd (pi_range1 rfl T.n_range (pa_cons (pe_callB (r := rLenK K) call_len_seq rfl T.n_len (by decide +kernel) (pa_cons (pv 0) pa_nil)) pa_nil)) (blkOk_by (N := sc_law_truthsN) (sc := defScope s_law_truths) (by decide +kernel)) (fun _ _ _ _ _ => (pg_name (i := 5) sc_law_truths.nd rfl (Or.inl rfl))) (fun _ _ _ _ _ => pts_nil) (fun _ _ _ _ _ => (pe_or (pe_ix (r := rIxL K) ix_list (pv 3) (pv 5) (fun _ _ => rfl)) (pe_one (pe_ix (r := rIxL K) ix_list (pv 4) (pv 5) (fun _ _ => rfl))))))))
      pss_nil)
    (pss_one (ps_ret (pe_lc (own := [("_law_k", 5)]) rfl sc_law_truths.nd (pi_range1 rfl T.n_range (pa_cons (pe_callB (r := rLenK K) call_len_seq rfl T.n_len (by decide +kernel) (pa_cons (pv 0) pa_nil)) pa_nil)) (blkOk_by (N := sc_law_truthsN) (sc := defScope s_law_truths) (by decide +kernel)) (fun _ _ _ _ _ => (pg_name (i := 5) sc_law_truths.nd rfl (Or.inl rfl))) (fun _ _ _ _ _ => pts_nil) (fun _ _ _ _ _ => (pe_callB (r := rAll K) (cr_all rfl) rfl T.n_all (by decide +kernel) (pa_cons (pe_lc (own := [("_law_j", 9)]) rfl sc_law_truths.nd (pi_listK (K := K) (pe_dget (hu_of hr) (pv 1) (pv 5) (fun _ _ => rfl))) (blkOk_by (N := sc_law_truthsN) (by rfl)) (fun _ _ _ _ _ => (pg_name (i := 9) sc_law_truths.nd rfl (Or.inl rfl))) (fun _ _ _ _ _ => pts_nil) (fun _ _ _ _ _ => (pe_or (pe_ix (r := rIxL K) ix_list (pv 4) (pv 9) (fun _ _ => rfl)) (pe_one (pe_not (pe_ix (r := rIxL K) ix_list (pv 3) (pv 9) (fun _ _ => rfl))))))) pa_nil)))))))))))), ?_⟩
      cases ia with
      | @lt ax l hX =>
        refine ⟨_, rfl, ax, _, _, _, rfl, rfl, hX, at0, rfl, _, rfl, iteT ⟨_, rfl, p, rfl, ⟨_, SqL.of hp⟩, fun D nD => ?_⟩⟩
        refine lc_list (K := K) (a := p) (xs := ws) (fun i H3 => ∃ bs : List Bool, H3 D = some (.lst (bs.map V.bl)) ∧ BsOk g (.lt l) i bs ∧ Same H H3) ?_ ?_ ?_ ?_
        · exact ⟨[], upd_same, ⟨rfl, fun k b e => by simp at e⟩, same_new nD⟩
        · rintro i H3 _ ⟨_, _, _, s3⟩
          exact SqL.of (s3 _ _ hp)
        · rintro i x H3 hx ⟨bs, hD, hb, s3⟩
          obtain ⟨sd, hsd, t, pn, pu, rfl, ht, hpn, hpu, _, _⟩ := pair_get pw hx
          have il : i < g.length := (List.getElem?_eq_some_iff.mp hsd).1
          refine ⟨t, _, rfl, .inl (.inl (s3 _ _ ht)), rfl, _, _, rfl, _, _, rfl, rfl, rfl, _, rfl, ax, _, _, _, rfl, rfl, seqT s3 hX, at1, _, rfl, pn, _, rfl, .inl (SqL.of (s3 _ _ hpn)), rfl, flat_nm _, ?_⟩
          have eb : (if false = true then !inV (.str (S l)) (sd.1.map fun l => V.str (S l)) else inV (.str (S l)) (sd.1.map fun l => V.str (S l))) = decide (l ∈ sd.1) := by
            rw [if_neg (fun z => nomatch z), inV_nm]
          rw [eb]
          refine ⟨_, hD, ?_, bs ++ [decide (l ∈ sd.1)], by rw [upd_same, List.map_append]; rfl, hb.snoc ?_, same_put s3 nD⟩
          · rw [List.length_map, hb.1]
            exact small (by omega)
          · constructor
            · intro h
              exact ⟨sd, hsd, of_decide_eq_true h⟩
            · rintro ⟨s', e', m⟩
              rw [hsd] at e'
              injection e' with e'
              subst e'
              exact decide_eq_true m
        · rintro H3 ⟨bs, hD, hb, s3⟩
          rw [wl] at hb
          exact q H3 D bs s3 nD hD hb
      | @nv ax hX =>
        refine ⟨_, rfl, ax, _, _, _, rfl, rfl, hX, at0, rfl, _, rfl, iteF ⟨_, rfl, ax, _, _, _, rfl, rfl, hX, at0, rfl, _, rfl, iteT ⟨_, rfl, p, rfl, ⟨_, SqL.of hp⟩, fun D nD => ?_⟩⟩⟩
        refine lc_list (K := K) (a := p) (xs := ws) (fun i H3 => ∃ bs : List Bool, H3 D = some (.lst (bs.map V.bl)) ∧ BsOk g .nv i bs ∧ Same H H3) ?_ ?_ ?_ ?_
        · exact ⟨[], upd_same, ⟨rfl, fun k b e => by simp at e⟩, same_new nD⟩
        · rintro i H3 _ ⟨_, _, _, s3⟩
          exact SqL.of (s3 _ _ hp)
        · rintro i x H3 hx ⟨bs, hD, hb, s3⟩
          have il : i < ws.length := (List.getElem?_eq_some_iff.mp hx).1
          refine ⟨rfl, _, hD, ?_, bs ++ [false], by rw [upd_same, List.map_append]; rfl, hb.snoc ⟨fun h => (nomatch h), fun h => h.elim⟩, same_put s3 nD⟩
          rw [List.length_map, hb.1]
          exact small (by omega)
        · rintro H3 ⟨bs, hD, hb, s3⟩
          rw [wl] at hb
          exact q H3 D bs s3 nD hD hb
      | @bin ax w x y l r hX hl' hr' =>
        have w1 : decide (V.str w.s = V.str "letter") = false := by cases w <;> decide
        have w2 : decide (V.str w.s = V.str "never") = false := by cases w <;> decide
        have hd' : max l.dp r.dp + 1 < n + 1 := hd
        refine ⟨_, rfl, ax, _, _, _, rfl, rfl, hX, at0, rfl, _, rfl, iteF' w1 ⟨_, rfl, ax, _, _, _, rfl, rfl, hX, at0, rfl, _, rfl, iteF' w2 ⟨_, rfl, _, rfl, _, rfl, ax, _, _, _, rfl, rfl, hX, at1, p, d, g, x, l, rfl, hg, hrc, ok, hl, hl', by omega, fun H1 D1 bs1 s1 nD1 eD1 hb1 => ?_⟩⟩⟩
        refine ⟨_, rfl, _, rfl, _, rfl, ax, _, _, _, rfl, rfl, seqT s1 hX, at2, p, d, g, y, r, rfl, hg.same s1, hrc.same s1, ok, hl, hr'.same s1, by omega, fun H2 D2 bs2 s2 nD2 eD2 hb2 => ?_⟩
        have s12 := s1.trans s2
        have eD12 := s2 _ _ eD1
        have hX2 := seqT s12 hX
        have hp2 := s12 _ _ hp
        have len2 : ((ws.length : Nat) : Int) = ((g.length : Nat) : Int) := by rw [wl]
        cases w with
        | and =>
          refine ⟨_, rfl, ax, _, _, _, rfl, rfl, hX2, at0, rfl, _, rfl, iteT ⟨_, rfl, p, ws, rfl, .inl (SqL.of hp2), _, rfl, by omega, by omega, fun D nD => ?_⟩⟩
          have nD0 := s12.free nD
          refine lc_range (lo := 0) (n := ws.length) (fun i H3 => ∃ bs : List Bool, H3 D = some (.lst (bs.map V.bl)) ∧ BsOk g (.bin .and l r) i bs ∧ Same H2 H3) ?_ ?_ ?_
          · exact ⟨[], upd_same, ⟨rfl, fun k b e => by simp at e⟩, same_new nD⟩
          · rintro i H3 hi ⟨bs, hD, hb, s3⟩
            obtain ⟨b1, e1, i1⟩ := hb1.at (k := i) (by omega)
            obtain ⟨b2, e2, i2⟩ := hb2.at (k := i) (by omega)
            have at1' : atI (bs1.map V.bl) (0 + ((i : Nat) : Int)) = some (.bl b1) := by rw [Int.zero_add]; exact atI_nat e1
            have at2' : atI (bs2.map V.bl) (0 + ((i : Nat) : Int)) = some (.bl b2) := by rw [Int.zero_add]; exact atI_nat e2
            have hv : Vl _ [some (.ref p), some (.ref d), some (.ref ax), some (.ref D1), some (.ref D2), some (.int (0 + ((i : Nat) : Int))), none, none, none, none] H3 (.bl (b1 && b2)) := vl_andV (vl_ixL (K := K) (vl_var (i := 3) rfl) (vl_var (i := 5) rfl) (SqL.of (s3 _ _ eD12)) at1') (vl_ixL (K := K) (vl_var (i := 4) rfl) (vl_var (i := 5) rfl) (SqL.of (s3 _ _ eD2)) at2')
            refine ⟨rfl, hv _ ⟨_, hD, ?_, bs ++ [b1 && b2], by rw [upd_same, List.map_append]; rfl, hb.snoc ?_, same_put s3 nD⟩⟩
            · rw [List.length_map, hb.1]
              exact small (by omega)
            · rw [Bool.and_eq_true, i1, i2]
              rfl
          · rintro H3 ⟨bs, hD, hb, s3⟩
            rw [wl] at hb
            exact q H3 D bs (s12.trans s3) nD0 hD hb
        | or =>
          refine ⟨_, rfl, ax, _, _, _, rfl, rfl, hX2, at0, rfl, _, rfl, iteF ⟨_, rfl, ax, _, _, _, rfl, rfl, hX2, at0, rfl, _, rfl, iteT ⟨_, rfl, p, ws, rfl, .inl (SqL.of hp2), _, rfl, by omega, by omega, fun D nD => ?_⟩⟩⟩
          have nD0 := s12.free nD
          refine lc_range (lo := 0) (n := ws.length) (fun i H3 => ∃ bs : List Bool, H3 D = some (.lst (bs.map V.bl)) ∧ BsOk g (.bin .or l r) i bs ∧ Same H2 H3) ?_ ?_ ?_
          · exact ⟨[], upd_same, ⟨rfl, fun k b e => by simp at e⟩, same_new nD⟩
          · rintro i H3 hi ⟨bs, hD, hb, s3⟩
            obtain ⟨b1, e1, i1⟩ := hb1.at (k := i) (by omega)
            obtain ⟨b2, e2, i2⟩ := hb2.at (k := i) (by omega)
            have at1' : atI (bs1.map V.bl) (0 + ((i : Nat) : Int)) = some (.bl b1) := by rw [Int.zero_add]; exact atI_nat e1
            have at2' : atI (bs2.map V.bl) (0 + ((i : Nat) : Int)) = some (.bl b2) := by rw [Int.zero_add]; exact atI_nat e2
            have hv : Vl _ [some (.ref p), some (.ref d), some (.ref ax), some (.ref D1), some (.ref D2), some (.int (0 + ((i : Nat) : Int))), none, none, none, none] H3 (.bl (b1 || b2)) := vl_orV (vl_ixL (K := K) (vl_var (i := 3) rfl) (vl_var (i := 5) rfl) (SqL.of (s3 _ _ eD12)) at1') (vl_ixL (K := K) (vl_var (i := 4) rfl) (vl_var (i := 5) rfl) (SqL.of (s3 _ _ eD2)) at2')
            refine ⟨rfl, hv _ ⟨_, hD, ?_, bs ++ [b1 || b2], by rw [upd_same, List.map_append]; rfl, hb.snoc ?_, same_put s3 nD⟩⟩
            · rw [List.length_map, hb.1]
              exact small (by omega)
            · rw [Bool.or_eq_true, i1, i2]
              rfl
          · rintro H3 ⟨bs, hD, hb, s3⟩
            rw [wl] at hb
            exact q H3 D bs (s12.trans s3) nD0 hD hb
        | thn =>
          refine ⟨_, rfl, ax, _, _, _, rfl, rfl, hX2, at0, rfl, _, rfl, iteF ⟨_, rfl, ax, _, _, _, rfl, rfl, hX2, at0, rfl, _, rfl, iteF ⟨_, rfl, p, ws, rfl, .inl (SqL.of hp2), _, rfl, by omega, by omega, fun D nD => ?_⟩⟩⟩
          have nD0 := s12.free nD
          refine lc_range (lo := 0) (n := ws.length) (fun i H3 => ∃ bs : List Bool, H3 D = some (.lst (bs.map V.bl)) ∧ BsOk g (.bin .thn l r) i bs ∧ Same H2 H3) ?_ ?_ ?_
          · exact ⟨[], upd_same, ⟨rfl, fun k b e => by simp at e⟩, same_new nD⟩
          · rintro i H3 hi ⟨bs, hD, hb, s3⟩
            have il : i < g.length := by omega
            obtain ⟨⟨kvs, hkv, _, _, hF⟩, _⟩ := hrc.same s12
            obtain ⟨lk, ks, ev, elk, kmem, knd, _, _⟩ := hF i il
            have hev : DGet H3 d (.int (0 + ((i : Nat) : Int))) (some (.ref lk)) := by
              rw [Int.zero_add, ← ev]
              exact DGet.k (k := .inl (i : Int)) (s3 _ _ hkv)
            refine ⟨rfl, _, rfl, _, rfl, d, .ref lk, rfl, hev, lk, rfl, ⟨_, SqL.of (s3 _ _ elk)⟩, fun D3 nD3 => ?_⟩
            refine lc_list (K := K) (a := lk) (xs := ks.map fun x => V.int (x : Nat)) (fun e H4 => ∃ cs : List Bool, H4 D3 = some (.lst (cs.map V.bl)) ∧ cs.length = e ∧ ((∀ c ∈ cs, c = true) ↔ ∀ x ∈ ks.take e, Hd g l x → Hd g r x) ∧ Same H3 H4) ?_ ?_ ?_ ?_
            · exact ⟨[], upd_same, rfl, ⟨fun _ x hx => by simp at hx, fun _ c hc => nomatch hc⟩, same_new nD3⟩
            · rintro e H4 _ ⟨_, _, _, _, s4⟩
              exact SqL.of (s4 _ _ (s3 _ _ elk))
            · rintro e z H4 hz ⟨cs, hD3, cl, ciff, s4⟩
              rw [List.getElem?_map] at hz
              obtain ⟨x, hx, rfl⟩ := Option.map_eq_some_iff.mp hz
              have s34 := s3.trans s4
              have xl : x < g.length := ((kmem x).mp (List.mem_of_getElem? hx)).lt ok il
              have el : e < ks.length := (List.getElem?_eq_some_iff.mp hx).1
              have kl : ks.length ≤ g.length := nodup_le _ _ knd fun x hx => ((kmem x).mp hx).lt ok il
              obtain ⟨b1, e1, i1⟩ := hb1.at xl
              obtain ⟨b2, e2, i2⟩ := hb2.at xl
              have hv : Vl _ [some (.ref p), some (.ref d), some (.ref ax), some (.ref D1), some (.ref D2), some (.int (0 + ((i : Nat) : Int))), none, none, none, some (.int (x : Nat))] H4 (.bl (b2 || !b1)) := vl_orV (vl_ixL (K := K) (vl_var (i := 4) rfl) (vl_var (i := 9) rfl) (SqL.of (s34 _ _ eD2)) (atI_nat e2)) (vl_notV (vl_ixL (K := K) (vl_var (i := 3) rfl) (vl_var (i := 9) rfl) (SqL.of (s34 _ _ eD12)) (atI_nat e1)))
              refine ⟨rfl, hv _ ⟨_, hD3, ?_, cs ++ [b2 || !b1], by rw [upd_same, List.map_append]; rfl, by rw [List.length_append, cl]; rfl, ?_, same_put s4 nD3⟩⟩
              · rw [List.length_map]
                exact small (by omega)
              · rw [take_snoc hx]
                have hx1 : (b2 || !b1) = true ↔ (Hd g l x → Hd g r x) := by
                  rw [← i1, ← i2]
                  cases b1 <;> cases b2 <;> simp
                constructor
                · intro h y hy
                  rcases List.mem_append.mp hy with h1 | h1
                  · exact ciff.mp (fun c hc => h c (List.mem_append_left _ hc)) y h1
                  · rw [List.mem_singleton.mp h1]
                    exact hx1.mp (h _ (List.mem_append_right _ (List.mem_singleton.mpr rfl)))
                · intro h c hc
                  rcases List.mem_append.mp hc with h1 | h1
                  · exact ciff.mpr (fun y hy => h y (List.mem_append_left _ hy)) c h1
                  · rw [List.mem_singleton.mp h1]
                    exact hx1.mpr (h x (List.mem_append_right _ (List.mem_singleton.mpr rfl)))
            · rintro H4 ⟨cs, hD3, cl, ciff, s4⟩
              rw [List.length_map, List.take_length] at ciff
              refine ⟨D3, _, rfl, SqL.of hD3, _, s4 _ _ hD, ?_, bs ++ [cs.all id], by rw [upd_same, List.map_append]; rfl, hb.snoc ?_, same_put (s3.trans s4) nD⟩
              · rw [List.length_map, hb.1]
                exact small (by omega)
              · rw [List.all_eq_true]
                show (∀ c ∈ cs, c = true) ↔ ∀ j, Rch g i j → Hd g l j → Hd g r j
                rw [ciff]
                exact ⟨fun h j hj => h j ((kmem j).mpr hj), fun h x hx => h x ((kmem x).mp hx)⟩
          · rintro H3 ⟨bs, hD, hb, s3⟩
            rw [wl] at hb
            exact q H3 D bs (s12.trans s3) nD0 hD hb
/-! ### _law_cut -/
def sp_law_cut (K : PySem.W.Frag) : Sp := fun vs H Q _ => ∃ (p pr : Addr) (g : Gr) (ks : List Nat), vs = [.ref p, .ref pr] ∧ IsGr (fun _ => True) H p g ∧ H pr = some (.lst (ks.map fun x => V.int (x : Nat))) ∧ Closed g ks ∧ g.length ≤ 90000 ∧ (∀ s ∈ g, s.2.length ≤ 90000) ∧ ∀ H' L, Same H H' → IsGr (fun x => H x = none) H' L (cutG g ks) → Q (.ref L) H'
theorem idx_eqV {ks : List Nat} {u : Nat} {m : Nat} {z : V} (h : m < ks.idxOf u) (e : (ks.map fun x => V.int (x : Nat))[m]? = some z) : eqV z (.int (u : Nat)) = false := by
  rw [List.getElem?_map] at e
  obtain ⟨x, hx, rfl⟩ := Option.map_eq_some_iff.mp e
  show ((x : Int) == (u : Int)) = false
  have ne : x ≠ u := fun z => by
    subst z
    have hm := (List.getElem?_eq_some_iff.mp hx).1
    rw [List.getElem?_eq_getElem hm] at hx
    injection hx with hx
    have h2 : ks.idxOf x ≤ m := by
      rw [← hx]
      have : ∀ (l : List Nat) (i : Nat) (hi : i < l.length), l.idxOf l[i] ≤ i := by
        intro l
        induction l with
        | nil => intro i hi; exact absurd hi (Nat.not_lt_zero i)
        | cons a r ih =>
          intro i hi
          cases i with
          | zero => simp
          | succ i =>
            have hi' : i < r.length := by simpa using hi
            rw [List.getElem_cons_succ, List.idxOf_cons]
            have := ih i hi'
            cases (a == r[i]) <;> simp <;> omega
      exact this ks m hm
    omega
  simp
  omega
theorem ok_law_cut (T : Txt w K mg) : Cl P w K mg base 1 "_law_cut" (sp_law_cut K) := by
  refine T.d_law_cut.ok sc_law_cut (fun vs H Q E h => ?_) (fun f cdv A outer s H vs Q E hr h => ?_)
  · obtain ⟨p, pr, g, ks, rfl, _⟩ := h
    rfl
  · obtain ⟨p, pr, g, ks, rfl, hg, hpr, c, hl, hl2, q⟩ := h
    refine ⟨_, (pss_cons (ps_set (i := 2) sc_law_cut.nd rfl (Or.inl rfl) (pe_lst pa_nil))
    (pss_cons (ps_for PassesOwn.never rfl (pi_listK (K := K) (pv 1)) (pg_name (i := 3) sc_law_cut.nd rfl (Or.inl rfl))
      (pss_one (ps_expr (pe_bm PySem.F.plainAttrs_list PySem.F.slot_list_append PySem.F.type_list_append mt_append (pv 2) (pa_cons (pe_tup (pa_cons (pe_callTy (r := rListK K) call_list_of rfl T.n_list (by decide +kernel) (pa_cons (pe_ix (r := rIxT K) ix_tup (pe_ix (r := rIxL K) ix_list (pv 0) (pv 3) (fun _ _ => rfl)) pe_int (fun _ _ => rfl)) pa_nil)) (pa_cons (pe_lc (own := [("_law_j", 4)]) rfl sc_law_cut.nd (pi_listK (K := K) (pe_ix (r := rIxT K) ix_tup (pe_ix (r := rIxL K) ix_list (pv 0) (pv 3) (fun _ _ => rfl)) pe_int (fun _ _ => rfl))) (blkOk_by (N := sc_law_cutN) (sc := defScope s_law_cut) (by decide +kernel)) (fun _ _ _ _ _ => (pg_name (i := 4) sc_law_cut.nd rfl (Or.inl rfl))) (fun _ _ _ _ _ => pts_nil) (fun _ _ _ _ _ => (pe_bmJ (K := K) (r := rIndex) rfl PySem.F.plainAttrs_list PySem.F.slot_list_index PySem.F.type_list_index mt_index (pv 1) (pa_cons (pv 4) pa_nil)))) pa_nil))) pa_nil)))))
    (pss_one (ps_ret (pv 2))))), ?_⟩
    have kl : ks.length ≤ g.length := nodup_le _ _ (lt_nd c.lt) c.lo
    refine ⟨sz0, fun L nL => ?_⟩
    have s1 : Same H (upd H L (.lst [])) := same_new nL
    have eL : (upd H L (.lst [])) L = some (.lst []) := upd_same
    show ∃ v : V, _
    generalize upd H L (.lst []) = H1 at s1 eL ⊢
    obtain ⟨⟨ws, hp, pw⟩, _⟩ := hg
    refine ⟨_, rfl, pr, rfl, ⟨_, SqL.of (s1 _ _ hpr)⟩, for_list (K := K) (a := pr) (xs := ks.map fun x => V.int (x : Nat)) (fun i σ H4 => ∃ (y3 y4 : Option V) (vs : List V), σ = [some (.ref p), some (.ref pr), some (.ref L), y3, y4] ∧ H4 L = some (.lst vs) ∧ Paired (IsSd (fun x => H x = none ∧ x ≠ L) H4) vs (cutG g ks |>.take i) ∧ Same H H4) ?_ ?_ ?_ ?_⟩
    · exact ⟨_, _, [], rfl, eL, .nil, s1⟩
    · rintro i σ H4 _ ⟨_, _, _, _, _, _, s4⟩
      exact SqL.of (s4 _ _ hpr)
    · rintro i x σ H4 hx ⟨y3, y4, vs, rfl, hL, pv, s4⟩
      rw [List.getElem?_map] at hx
      obtain ⟨j, hj, rfl⟩ := Option.map_eq_some_iff.mp hx
      have hjk := List.mem_of_getElem? hj
      have il : i < ks.length := (List.getElem?_eq_some_iff.mp hj).1
      have ejs := stA_at (c.lo j hjk)
      have hul := hl2 _ (List.mem_of_getElem? ejs)
      obtain ⟨x, hx2, t, pn, pu, rfl, ht, hpn, hpu, _, _⟩ := pair_at pw ejs
      refine ⟨_, rfl, tyL hL, _, rfl, _, rfl, p, ws, _, _, rfl, rfl, SqL.of (s4 _ _ hp), atI_nat hx2, t, _, _, _, rfl, rfl, .inl (.inl (s4 _ _ ht)), at0, pn, _, rfl, .inl (SqL.of (s4 _ _ hpn)), fun a na => ?_⟩
      have s5 : Same H4 (upd H4 a (.lst ((stA g j).1.map fun n => V.str (S n)))) := same_new na
      have ea : (upd H4 a (.lst ((stA g j).1.map fun n => V.str (S n)))) a = some (.lst ((stA g j).1.map fun n => V.str (S n))) := upd_same
      show ∃ v : V, _
      generalize upd H4 a (.lst ((stA g j).1.map fun n => V.str (S n))) = H5 at s5 ea ⊢
      have s45 := s4.trans s5
      refine ⟨_, rfl, _, rfl, p, ws, _, _, rfl, rfl, SqL.of (s45 _ _ hp), atI_nat hx2, t, _, _, _, rfl, rfl, .inl (.inl (s45 _ _ ht)), at1, pu, rfl, ⟨_, SqL.of (s45 _ _ hpu)⟩, fun b nb => ?_⟩
      refine lc_list (K := K) (a := pu) (xs := (stA g j).2.map fun u => V.int (u : Nat)) (fun e H6 => H6 b = some (.lst ((((stA g j).2.take e).map fun u => ks.idxOf u).map fun u => V.int (u : Nat))) ∧ Same H5 H6) ?_ ?_ ?_ ?_
      · exact ⟨upd_same, same_new nb⟩
      · rintro e H6 _ ⟨_, s6⟩
        exact SqL.of (s6 _ _ (s45 _ _ hpu))
      · rintro e z H6 hz ⟨hb, s6⟩
        rw [List.getElem?_map] at hz
        obtain ⟨u, hu, rfl⟩ := Option.map_eq_some_iff.mp hz
        have huk := c.cl j hjk u (List.mem_of_getElem? hu)
        have hpr6 := s6 _ _ (s45 _ _ hpr)
        have eu : (ks.map fun x => V.int (x : Nat))[ks.idxOf u]? = some (.int (u : Nat)) := by
          rw [List.getElem?_map, idxN_at huk]
          rfl
        have eq1 : eqV (V.int (u : Nat)) (.int (u : Nat)) = true := by
          show ((u : Int) == (u : Int)) = true
          simp
        refine ⟨rfl, _, rfl, tyL hpr6, _, rfl, pr, _, _, ks.idxOf u, _, rfl, rfl, SqL.of hpr6, rfl, flat_int _, eu, eq1, fun m z' hm e' => idx_eqV hm e', _, hb, ?_, ?_, same_put s6 nb⟩
        · rw [List.length_map, List.length_map, List.length_take]
          exact small (by omega)
        · rw [upd_same, take_snoc hu, List.map_append, List.map_append]
          rfl
      · rintro H6 ⟨hb, s6⟩
        rw [List.length_map, List.take_length] at hb
        have hL6 := s6 _ _ (s5 _ _ hL)
        have ea6 := s6 _ _ ea
        refine ⟨sz2, fun cc nc => ⟨L, vs, _, rfl, rfl, same_new nc _ _ hL6, ?_, ?_⟩⟩
        · have := pair_len pv
          rw [List.length_take] at this
          exact small (by omega)
        have s7 : Same H6 (upd H6 cc (.tup [.ref a, .ref b])) := same_new nc
        have ec : (upd H6 cc (.tup [.ref a, .ref b])) cc = some (.tup [.ref a, .ref b]) := upd_same
        have ea7 := s7 _ _ ea6
        have eb7 := s7 _ _ hb
        generalize upd H6 cc (.tup [.ref a, .ref b]) = H7 at s7 ec ea7 eb7
        have s47 := s5.trans (s6.trans s7)
        have hL7 := s47 _ _ hL
        have na0 : H a = none := s4.free na
        have nb0 : H b = none := s45.free nb
        have naL : a ≠ L := (ne_of_none hL na).symm
        have nbL : b ≠ L := (ne_of_none (s5 _ _ hL) nb).symm
        refine ⟨_, _, vs ++ [.ref cc], rfl, upd_same, ?_, same_put (s4.trans s47) nL⟩
        rw [take_snoc (cutG_at hj)]
        have tr : ∀ (v : V) (s : Std1), IsSd (fun x => H x = none ∧ x ≠ L) H7 v s → IsSd (fun x => H x = none ∧ x ≠ L) (upd H7 L (.lst (vs ++ [.ref cc]))) v s := fun v s h => by
          obtain ⟨t, pn, pu, k0, k1, k2, k3, k4, k5⟩ := h
          refine ⟨t, pn, pu, k0, ?_, ?_, ?_, k4, k5⟩
          · rw [upd_ne (ne_of k1 hL7 (by intro z; cases z))]
            exact k1
          · rw [upd_ne k4.2]
            exact k2
          · rw [upd_ne k5.2]
            exact k3
        exact pair_app (pair_map (fun v s h => tr v s (h.same s47)) pv) (.cons (tr _ _ ⟨cc, a, b, rfl, ec, ea7, eb7, ⟨na0, naL⟩, ⟨nb0, nbL⟩⟩) .nil)
    · rintro σ H4 ⟨y3, y4, vs, rfl, hL, pv, s4⟩
      have e : (ks.map fun x => V.int (x : Nat)).length = (cutG g ks).length := by rw [List.length_map, cutG_len]
      rw [e, List.take_length] at pv
      refine ⟨_, rfl, q H4 L s4 ⟨⟨vs, hL, pair_map (fun v s h => ?_) pv⟩, nL⟩⟩
      obtain ⟨t, pn, pu, k0, k1, k2, k3, k4, k5⟩ := h
      exact ⟨t, pn, pu, k0, k1, k2, k3, k4.1, k5.1⟩
/-! ### _law_right -/
def sp_law_right (K : PySem.W.Frag) : Sp := fun vs H Q _ => ∃ (p pr pt : Addr) (g : Gr) (k : Nat) (v : V) (a : Sm) (bs : List Bool), vs = [.ref p, .int k, .ref pr, .ref pt, v] ∧ IsGr (fun _ => True) H p g ∧ g.ok ∧ g.length ≤ 200 ∧ k < g.length ∧ (∀ s ∈ g, s.1.length ≤ 1000 ∧ s.2.length ≤ 1000 ∧ ∀ l ∈ s.1, Ch l) ∧ H pr = some (.lst ((rchL g k).map fun x => V.int (x : Nat))) ∧ H pt = some (.lst (bs.map V.bl)) ∧ BsOk g a g.length bs ∧ IsSt H v a ∧ a.size ≤ 10000 ∧ ∀ H', Same H H' → Q (.bl true) H'
/-- alike but for the places with Z; no tuple is changed -/
structure Chg (Z : Addr → Prop) (H H' : Hp) : Prop where
  keep : ∀ a o, ¬ Z a → H a = some o → H' a = some o
  ts : TS H H'
theorem Chg.refl (Z : Addr → Prop) (H : Hp) : Chg Z H H := ⟨fun _ _ _ h => h, TS.refl⟩
theorem Chg.trans {Z : Addr → Prop} {H H1 H2 : Hp} (a : Chg Z H H1) (b : Chg Z H1 H2) : Chg Z H H2 := ⟨fun x o n h => b.keep x o n (a.keep x o n h), a.ts.trans b.ts⟩
theorem Chg.put {Z : Addr → Prop} {H : Hp} {p : Addr} {xs : List V} {o : HO} (z : Z p) (h : H p = some (.lst xs)) : Chg Z H (upd H p o) := ⟨fun a x n e => by
  rw [upd_ne (fun (q : a = p) => n (by rw [q]; exact z))]
  exact e, TS.lst h⟩
theorem IsGr.chg {Z : Addr → Prop} {H H' : Hp} (c : Chg Z H H') {a : Addr} {g : Gr} (h : IsGr (fun x => ¬ Z x) H a g) : IsGr (fun x => ¬ Z x) H' a g := by
  obtain ⟨⟨vs, h1, h2⟩, h3⟩ := h
  refine ⟨⟨vs, c.keep _ _ h3 h1, pair_map (fun v s h => ?_) h2⟩, h3⟩
  obtain ⟨t, pn, pu, k0, k1, k2, k3, k4, k5⟩ := h
  exact ⟨t, pn, pu, k0, c.ts _ _ k1, c.keep _ _ k4 k2, c.keep _ _ k5 k3, k4, k5⟩
/-- the lists of a growth, whatever they hold -/
def Lst2 (Z : Addr → Prop) (n : Nat) (H : Hp) (v : V) : Prop := ∃ (t pn pu : Addr) (xs ys : List V), v = .ref t ∧ H t = some (.tup [.ref pn, .ref pu]) ∧ H pn = some (.lst xs) ∧ H pu = some (.lst ys) ∧ xs.length ≤ n ∧ ys.length ≤ n ∧ Z pn ∧ Z pu
theorem Lst2.put {Z : Addr → Prop} {n m : Nat} {H : Hp} {v : V} (h : Lst2 Z n H v) {p : Addr} {xs ys : List V} (hp : H p = some (.lst xs)) (hy : ys.length ≤ m) (nm : n ≤ m) : Lst2 Z m (upd H p (.lst ys)) v := by
  obtain ⟨t, pn, pu, as, bs, e, h1, h2, h3, h4, h5, h6, h7⟩ := h
  have ht : (upd H p (.lst ys)) t = some (.tup [.ref pn, .ref pu]) := by
    rw [upd_ne (ne_of h1 hp (by intro z; cases z))]
    exact h1
  by_cases e1 : pn = p
  · by_cases e2 : pu = p
    · exact ⟨t, pn, pu, ys, ys, e, ht, by rw [e1, upd_same], by rw [e2, upd_same], hy, hy, h6, h7⟩
    · exact ⟨t, pn, pu, ys, bs, e, ht, by rw [e1, upd_same], by rw [upd_ne e2]; exact h3, hy, by omega, h6, h7⟩
  · by_cases e2 : pu = p
    · exact ⟨t, pn, pu, as, ys, e, ht, by rw [upd_ne e1]; exact h2, by rw [e2, upd_same], by omega, hy, h6, h7⟩
    · exact ⟨t, pn, pu, as, bs, e, ht, by rw [upd_ne e1]; exact h2, by rw [upd_ne e2]; exact h3, by omega, by omega, h6, h7⟩
theorem cutG_names {g : Gr} {ks : List Nat} (c : Closed g ks) {s : Std1} (hs : s ∈ cutG g ks) : ∃ s0 ∈ g, s.1 = s0.1 ∧ s.2.length = s0.2.length := by
  obtain ⟨j, hj, rfl⟩ := List.mem_map.mp hs
  exact ⟨stA g j, List.mem_of_getElem? (stA_at (c.lo j hj)), rfl, List.length_map ..⟩
theorem ok_law_right (T : Txt w K mg) (c_seen : Cl P w K mg base 4 "seen" (sp_seen K)) (c_above : Cl P w K mg base 2 "above" (sp_above K)) (c_cut : Cl P w K mg base 3 "cut" (sp_cut K)) (c__law_copied : Cl P w K mg base 1 "_law_copied" (sp_law_copied K)) (c__law_cut : Cl P w K mg base 1 "_law_cut" (sp_law_cut K)) : Cl P w K mg base 5 "_law_right" (sp_law_right K) := by
  refine T.d_law_right.ok sc_law_right (fun vs H Q E h => ?_) (fun f cdv A outer s H vs Q E hr h => ?_)
  · obtain ⟨p, pr, pt, g, k, v, a, bs, rfl, _⟩ := h
    rfl
  · obtain ⟨p, pr, pt, g, k, v, a, bs, rfl, hg, ok, hl, hk, hl2, hpr, hpt, hb, ia, hz, q⟩ := h
    refine ⟨_, (pss_cons (ps_set (i := 5) sc_law_right.nd rfl (Or.inl rfl) (pe_k c__law_copied hr (by omega) rfl (pa_cons (pv 0) pa_nil)))
    (pss_cons (ps_if (pt_cmpR (r := rNeE K) (op_neE hr.units) (pe_k c_above hr (by omega) rfl (pa_cons (pv 5) (pa_cons (pv 1) pa_nil))) (pv 2) (nomark _))
      (pss_one (ps_ret pe_bl))
      pss_nil)
    (pss_cons (ps_expr (pe_bm0 PySem.F.plainAttrs_list PySem.F.slot_list_clear PySem.F.type_list_clear mt_clear (pe_k c_above hr (by omega) rfl (pa_cons (pv 5) (pa_cons (pv 1) pa_nil)))))
    (pss_cons (ps_set (i := 6) sc_law_right.nd rfl (Or.inl rfl) (pe_k c__law_cut hr (by omega) rfl (pa_cons (pv 0) (pa_cons (pv 2) pa_nil))))
    (pss_cons (ps_set (i := 7) sc_law_right.nd rfl (Or.inl rfl) (pe_k c_cut hr (by omega) rfl (pa_cons (pv 5) (pa_cons (pv 1) pa_nil))))
    (pss_cons (ps_if (PW.pt (pw_or (pt_not (pt_val (pe_callB (r := rIsi K) call_isi rfl T.n_isinstance (by decide +kernel) (pa_cons (pv 7) (pa_cons (pe_bltn (v := .ty "list") rfl T.n_list (by decide +kernel) rfl) pa_nil))))) (pw_or (pt_cmpR (r := rNeE K) (op_neE hr.units) (pv 7) (pv 6) (nomark _)) (pw_or1 (pt_cmpR (r := rNeE K) (op_neE hr.units) (pe_k c_seen hr (by omega) rfl (pa_cons (pv 7) (pa_cons (pv 4) pa_nil))) (pe_lc (own := [("_law_j", 11)]) rfl sc_law_right.nd (pi_listK (K := K) (pv 2)) (blkOk_by (N := sc_law_rightN) (sc := defScope s_law_right) (by decide +kernel)) (fun _ _ _ _ _ => (pg_name (i := 11) sc_law_right.nd rfl (Or.inl rfl))) (fun _ _ _ _ _ => pts_nil) (fun _ _ _ _ _ => (pe_ix (r := rIxL K) ix_list (pv 3) (pv 11) (fun _ _ => rfl)))) (nomark _))))))
      (pss_one (ps_ret pe_bl))
      pss_nil)
    (pss_cons (ps_set (i := 8) sc_law_right.nd rfl (Or.inl rfl) (pe_k c_cut hr (by omega) rfl (pa_cons (pv 7) (pa_cons pe_int pa_nil))))
    (pss_cons (ps_for PassesOwn.never rfl (pi_listK (K := K) (pv 7)) (pg_tup rfl (pgs_cons (pg_name (i := 9) sc_law_right.nd rfl (Or.inl rfl)) (pgs_cons (pg_name (i := 10) sc_law_right.nd rfl (Or.inl rfl)) pgs_nil)))
      (pss_cons (ps_expr (pe_bm PySem.F.plainAttrs_list PySem.F.slot_list_append PySem.F.type_list_append mt_append (pv 9) (pa_cons pe_str pa_nil)))
        (pss_one (ps_expr (pe_bm0 PySem.F.plainAttrs_list PySem.F.slot_list_clear PySem.F.type_list_clear mt_clear (pv 10))))))
    (pss_one (ps_ret (pe_and (pe_cmpR (r := rEqE K) (op_eqE hr.units) (pv 8) (pv 6) (nomark _)) (pe_and (pe_cmpR (r := rEqE K) (op_eqE hr.units) (pe_k c_cut hr (by omega) rfl (pa_cons (pv 5) (pa_cons (pv 1) pa_nil))) (pv 6) (nomark _)) (pe_and (pe_cmpR (r := rEqE K) (op_eqE hr.units) (pe_k c_above hr (by omega) rfl (pa_cons (pv 5) (pa_cons (pv 1) pa_nil))) (pv 2) (nomark _)) (pe_one (pe_cmpR (r := rEqE K) (op_eqE hr.units) (pv 5) (pv 0) (nomark _)))))))))))))))), ?_⟩
    have c := rchL_closed ok k
    have lay := lay_gr (g := g) fun s hs => (hl2 s hs).2.2
    have lays := lay_gr (g := cutG g (rchL g k)) fun s hs => by
      obtain ⟨s0, h0, e1, _⟩ := cutG_names c hs
      rw [e1]
      exact (hl2 s0 h0).2.2
    have kl : (rchL g k).length ≤ g.length := nodup_le _ _ (lt_nd c.lt) c.lo
    refine ⟨_, rfl, p, g, rfl, hg, by omega, fun s hs => ⟨by have := (hl2 s hs).1; omega, by have := (hl2 s hs).2.1; omega⟩, fun H1 Ld s1 hLd => ?_⟩
    have hl2' : ∀ s ∈ g, s.2.length ≤ 90000 := fun s hs => by
      have := (hl2 s hs).2.1
      omega
    -- above(handed, k) != row
    refine ⟨_, rfl, _, rfl, Ld, g, k, rfl, hLd.any, ok, by omega, hk, fun H2 D s2 nD eD => ?_⟩
    have s02 := s1.trans s2
    refine ⟨_, rfl, _, _, dp_is (SqL.of eD), dp_is (SqL.of (s02 _ _ hpr)), lay_is _, lay_is _, ?_, _, rfl, ?_⟩
    · have := dep_is (rchL g k)
      omega
    rw [eqv_is]
    refine iteF ?_
    -- above(..).clear()
    refine ⟨_, rfl, _, rfl, Ld, g, k, rfl, (hLd.same s2).any, ok, by omega, hk, fun H3 D2 s3 nD2 eD2 => ?_⟩
    refine ⟨tyL eD2, D2, _, rfl, rfl, eD2, ?_⟩
    have s24 : Same H2 (upd H3 D2 (.lst [])) := same_put s3 nD2
    show ∃ v : V, _
    generalize upd H3 D2 (.lst []) = H4 at s24 ⊢
    have s04 := s02.trans s24
    have s14 := s2.trans s24
    -- due
    refine ⟨_, rfl, _, rfl, p, pr, g, _, rfl, hg.same s04, s04 _ _ hpr, c, by omega, hl2', fun H5 Du s5 hDu => ?_⟩
    have s05 := s04.trans s5
    have s15 := s14.trans s5
    -- found
    refine ⟨_, rfl, _, rfl, Ld, g, k, rfl, (hLd.same s15).any, ok, by omega, hk, hl2', fun H6 Fo s6 hFo => ?_⟩
    have s06 := s05.trans s6
    have s16 := s15.trans s6
    obtain ⟨⟨fws, hFp, fpw⟩, nFo⟩ := id hFo
    have okc := cutG_ok ok c
    refine ⟨_, rfl, _, _, .type "list", .type "list", true, rfl, .ty "list", .base (.lst hFp), kit_ty (by decide +kernel), true, rfl, iteF ⟨_, rfl, _, rfl, _, _, hFo.dp, (hDu.same s6).dp, lays, lays, ?_, _, rfl, ?_⟩⟩
    · have := dep_gr (cutG g (rchL g k))
      omega
    rw [eqv_gr]
    have clen : (cutG g (rchL g k)).length = (rchL g k).length := cutG_len _ _
    refine iteF ⟨_, rfl, _, rfl, Fo, _, v, a, rfl, hFo.any, okc, by omega, ia.ts (Same.ts s06), hz, fun H7 D3 cs s7 nD3 eD3 cl cb => ?_⟩
    have s07 := s06.trans s7
    refine ⟨_, rfl, pr, rfl, ⟨_, SqL.of (s07 _ _ hpr)⟩, fun D4 nD4 => ?_⟩
    refine lc_list (K := K) (a := pr) (xs := (rchL g k).map fun x => V.int (x : Nat)) (fun i H8 => ∃ ds : List Bool, H8 D4 = some (.lst (ds.map V.bl)) ∧ BsOk (cutG g (rchL g k)) a i ds ∧ Same H7 H8) ?_ ?_ ?_ ?_
    · exact ⟨[], upd_same, ⟨rfl, fun k b e => by simp at e⟩, same_new nD4⟩
    · rintro i H8 _ ⟨_, _, _, s8⟩
      exact SqL.of (s8 _ _ (s07 _ _ hpr))
    · rintro i x H8 hx ⟨ds, hD4, hds, s8⟩
      rw [List.getElem?_map] at hx
      obtain ⟨j, hj, rfl⟩ := Option.map_eq_some_iff.mp hx
      have hjk := List.mem_of_getElem? hj
      have il : i < (rchL g k).length := (List.getElem?_eq_some_iff.mp hj).1
      obtain ⟨b, eb, hbj⟩ := hb.at (c.lo j hjk)
      refine ⟨rfl, _, rfl, _, rfl, pt, _, _, _, rfl, rfl, SqL.of (s8 _ _ (s07 _ _ hpt)), atI_nat eb, _, hD4, ?_, ds ++ [b], by rw [upd_same, List.map_append]; rfl, hds.snoc ?_, same_put s8 nD4⟩
      · rw [List.length_map, hds.1]
        exact small (by omega)
      · rw [hbj]
        exact (cut_hd c a hj).symm
    rintro H8 ⟨ds, hD4, hds, s8⟩
    rw [List.length_map, ← clen] at hds
    have ecs : cs = ds := BsOk.uniq (g := cutG g (rchL g k)) (a := a) (n := (cutG g (rchL g k)).length) ⟨cl, cb⟩ hds
    subst ecs
    refine ⟨bsD cs, bsD cs, dp_bs (SqL.of (s8 _ _ eD3)), dp_bs (SqL.of hD4), lay_bs _, lay_bs _, ?_, _, rfl, ?_⟩
    · have := dep_bs cs
      omega
    rw [eqv_bs]
    refine iteF ?_
    have s68 := s7.trans s8
    have hFo8 := hFo.same s68
    -- again
    obtain ⟨r, er⟩ := rchL_head ok hk
    refine ⟨_, rfl, Fo, _, 0, rfl, hFo8.any, okc, by omega, by rw [clen, er]; exact Nat.succ_pos _, fun s hs => ?_, fun H9 Ag s9 hAg => ?_⟩
    · obtain ⟨s0, h0, _, e2⟩ := cutG_names c hs
      rw [e2]
      exact hl2' s0 h0
    rw [cut_again ok hk] at hAg
    -- the lists of found are changed
    have s69 := s68.trans s9
    have s09 := s06.trans s69
    let Z : Addr → Prop := fun x => H5 x = none ∧ (∃ o, H8 x = some o) ∧ x ≠ Fo
    have notold : ∀ x o, H5 x = some o → ¬ Z x := fun x o h z => by
      have z1 := z.1
      rw [h] at z1
      cases z1
    have notnew : ∀ x, H8 x = none → ¬ Z x := fun x h z => by
      obtain ⟨_, ⟨o, e⟩, _⟩ := z
      rw [h] at e
      cases e
    have hAgZ : IsGr (fun x => ¬ Z x) H9 Ag (cutG g (rchL g k)) := hAg.imp notnew
    have old : ∀ {p : Addr} {g : Gr}, IsGr (fun _ => True) H5 p g → IsGr (fun x => ¬ Z x) H5 p g := fun {p g} h => by
      obtain ⟨⟨vs, h1, h2⟩, _⟩ := h
      refine ⟨⟨vs, h1, pair_map (fun v s h => ?_) h2⟩, notold _ _ h1⟩
      obtain ⟨t, pn, pu, k0, k1, k2, k3, _, _⟩ := h
      exact ⟨t, pn, pu, k0, k1, k2, k3, notold _ _ k2, notold _ _ k3⟩
    have s59 := s6.trans s69
    have hLdZ := (old (hLd.same s15).any).same s59
    have hDuZ := (old hDu.any).same s59
    have hgZ := (old (hg.same s05)).same s59
    have hF9 := s69 _ _ hFp
    refine ⟨_, rfl, Fo, rfl, ⟨_, SqL.of hF9⟩, ?_⟩
    have all0 : ∀ v ∈ fws, Lst2 Z (90000 + 0) H9 v := fun v hv => by
      obtain ⟨i, hi, e⟩ := List.mem_iff_getElem.mp hv
      obtain ⟨s, hs, t, pn, pu, k0, k1, k2, k3, k4, k5⟩ := pair_get fpw (show fws[i]? = some v by rw [List.getElem?_eq_getElem hi, e])
      obtain ⟨s0, h0, e1, e2⟩ := cutG_names c (List.mem_of_getElem? hs)
      have b1 := (hl2 s0 h0).1
      have b2 := (hl2 s0 h0).2.1
      subst k0
      have n1 : pn ≠ Fo := fun z => by
        rw [z, hFp] at k2
        injection k2 with k2
        injection k2 with k2
        rw [k2] at hv
        obtain ⟨_, _, e⟩ := List.mem_map.mp hv
        cases e
      have n2 : pu ≠ Fo := fun z => by
        rw [z, hFp] at k3
        injection k3 with k3
        injection k3 with k3
        rw [k3] at hv
        obtain ⟨_, _, e⟩ := List.mem_map.mp hv
        cases e
      refine ⟨t, pn, pu, _, _, rfl, s69 _ _ k1, s69 _ _ k2, s69 _ _ k3, ?_, ?_, ⟨k4, ⟨_, s68 _ _ k2⟩, n1⟩, ⟨k5, ⟨_, s68 _ _ k3⟩, n2⟩⟩
      · rw [List.length_map, e1]
        omega
      · rw [List.length_map, e2]
        omega
    have flen : fws.length ≤ 200 := by
      have := pair_len fpw
      omega
    refine for_list (K := K) (a := Fo) (xs := fws) (fun i σ HA => ∃ y9 y10 : Option V, σ = [some (.ref p), some (.int k), some (.ref pr), some (.ref pt), some v, some (.ref Ld), some (.ref Du), some (.ref Fo), some (.ref Ag), y9, y10, none] ∧ Chg Z H9 HA ∧ HA Fo = some (.lst fws) ∧ (∀ v ∈ fws, Lst2 Z (90000 + i) HA v) ∧ ∀ a o, H a = some o → HA a = some o) ?_ ?_ ?_ ?_
    · exact ⟨_, _, rfl, Chg.refl _ _, hF9, all0, s09⟩
    · rintro i σ HA _ ⟨_, _, _, _, hF, _, _⟩
      exact SqL.of hF
    · rintro i x σ HA hx ⟨y9, y10, rfl, ch, hF, all, sHA⟩
      have hil : i < fws.length := (List.getElem?_eq_some_iff.mp hx).1
      obtain ⟨t, pn, pu, xs, ys, rfl, ht, hpn, hpu, xl, yl, zn, zu⟩ := all x (List.mem_of_getElem? hx)
      refine ⟨t, _, rfl, .inl (.inl ht), rfl, _, _, rfl, _, _, rfl, rfl, _, rfl, tyL hpn, pn, _, _, rfl, rfl, hpn, small (by omega), ?_⟩
      have ch1 : Chg Z HA (upd HA pn (.lst (xs ++ [.str "zz"]))) := Chg.put zn hpn
      have all1 : ∀ v ∈ fws, Lst2 Z (90000 + (i + 1)) (upd HA pn (.lst (xs ++ [.str "zz"]))) v := fun v hv => (all v hv).put hpn (by rw [List.length_append]; exact Nat.succ_le_succ xl) (by omega)
      have hFB : (upd HA pn (.lst (xs ++ [.str "zz"]))) Fo = some (.lst fws) := by
        rw [upd_ne fun z => zn.2.2 z.symm]
        exact hF
      have oldn : ∀ (HX : Hp) (q : Addr) (o : HO), Z q → (∀ a o, H a = some o → HX a = some o) → ∀ a o', H a = some o' → (upd HX q o) a = some o' := fun HX q o zq h a o' e => by
        rw [upd_ne fun (z : a = q) => notold a _ (s05 _ _ e) (by rw [z]; exact zq)]
        exact h _ _ e
      have sHB := oldn HA pn (.lst (xs ++ [.str "zz"])) zn sHA
      obtain ⟨ys', hpu1⟩ : ∃ ys', (upd HA pn (.lst (xs ++ [.str "zz"]))) pu = some (.lst ys') := by
        by_cases e : pu = pn
        · exact ⟨_, by rw [e, upd_same]⟩
        · exact ⟨ys, by rw [upd_ne e]; exact hpu⟩
      show ∃ v : V, _
      generalize upd HA pn (.lst (xs ++ [.str "zz"])) = HB at ch1 all1 hFB sHB hpu1 ⊢
      refine ⟨_, rfl, tyL hpu1, pu, _, rfl, rfl, hpu1, _, _, rfl, (ch.trans ch1).trans (Chg.put zu hpu1), ?_, fun v hv => (all1 v hv).put hpu1 (Nat.zero_le _) (Nat.le_refl _), oldn HB pu _ zu sHB⟩
      rw [upd_ne fun z => zu.2.2 z.symm]
      exact hFB
    · rintro σ HA ⟨y9, y10, rfl, ch, hF, all, sHA⟩
      have hAg := hAgZ.chg ch
      have hDu' := hDuZ.chg ch
      have hLd' := hLdZ.chg ch
      have hg' := hgZ.chg ch
      have dg := dep_gr g
      have dc := dep_gr (cutG g (rchL g k))
      have di := dep_is (rchL g k)
      refine ⟨_, rfl, _, rfl, _, _, hAg.dp, hDu'.dp, lays, lays, by omega, _, rfl, ?_⟩
      rw [eqv_gr]
      refine iteT' rfl ⟨_, rfl, _, rfl, Ld, g, k, rfl, hLd'.any, ok, by omega, hk, hl2', fun HB F2 sB hF2 => ⟨_, rfl, _, _, hF2.dp, (hDu'.same sB).dp, lays, lays, by omega, _, rfl, ?_⟩⟩
      rw [eqv_gr]
      refine iteT' rfl ⟨_, rfl, _, rfl, Ld, g, k, rfl, (hLd'.same sB).any, ok, by omega, hk, fun HC D6 sC nD6 eD6 => ⟨_, rfl, _, _, dp_is (SqL.of eD6), dp_is (SqL.of (sC _ _ (sB _ _ (sHA _ _ hpr)))), lay_is _, lay_is _, by omega, _, rfl, ?_⟩⟩
      rw [eqv_is]
      refine iteT' rfl ⟨_, rfl, _, rfl, _, _, ((hLd'.same sB).same sC).dp, ((hg'.same sB).same sC).dp, lay, lay, by omega, ?_⟩
      rw [eqv_gr]
      exact q HC fun a o e => sC _ _ (sB _ _ (sHA _ _ e))
/-! ### law -/
def sp_law (K : PySem.W.Frag) : Sp := fun vs H Q _ => ∃ (a : Addr) (ns : List Int), vs = [.ref a] ∧ SqL K H a (ns.map V.int) ∧ ns.length ≤ 63 ∧ ∀ H', Q (.bl true) H'
theorem ok_law (T : Txt w K mg) (c__law_well : Cl P w K mg base 1 "_law_well" (sp_law_well K)) (c__law_draw : Cl P w K mg base 1 "_law_draw" (sp_draw K)) (c__law_names : Cl P w K mg base 2 "_law_names" (sp_law_names K)) (c__law_statement : Cl P w K mg base 7 "_law_statement" (sp_law_statement K 6)) (c__law_growth : Cl P w K mg base 2 "_law_growth" (sp_law_growth K)) (c__law_reach : Cl P w K mg base 1 "_law_reach" (sp_law_reach K)) (c__law_truths : Cl P w K mg base 6 "_law_truths" (sp_law_truths K 6)) (c__law_right : Cl P w K mg base 5 "_law_right" (sp_law_right K))
    {f : Addr} {fd : FuncData} (F : Fun K "law" "law" s_law f fd) : FnOk P w K mg base CX0 8 f fd ["_law_script"] (sp_law K) := by
  refine F.ok sc_law (fun vs H Q E h => ?_) (fun cdv A outer s H vs Q E hr h => ?_)
  · obtain ⟨a, ns, rfl, _⟩ := h
    rfl
  · obtain ⟨a, ns, rfl, hS, hlen, q⟩ := h
    refine ⟨_, (pss_cons (ps_for PassesOwn.never rfl (pi_listK (K := K) (pe_op op_cat (pe_lst (pa_cons pe_int (pa_cons pe_int pa_nil))) (pe_slice (r := rSlL K) sl_list (pv 0) po_none (po_some pe_int)))) (pg_name (i := 1) sc_law.nd rfl (Or.inl rfl))
      (pss_cons (ps_set (i := 2) sc_law.nd rfl (Or.inl rfl) (pe_k c__law_well hr (by omega) rfl (pa_cons (pv 1) pa_nil)))
        (pss_cons (ps_set (i := 3) sc_law.nd rfl (Or.inl rfl) (pe_k c__law_names hr (by omega) rfl (pa_cons (pv 2) (pa_cons (pe_op op_add pe_int (pe_k c__law_draw hr (by omega) rfl (pa_cons (pv 2) (pa_cons pe_int pa_nil)))) pa_nil))))
        (pss_cons (ps_set (i := 4) sc_law.nd rfl (Or.inl rfl) (pe_k c__law_growth hr (by omega) rfl (pa_cons (pv 2) (pa_cons (pv 3) (pa_cons pe_int pa_nil)))))
        (pss_cons (ps_set (i := 5) sc_law.nd rfl (Or.inl rfl) (pe_k c__law_reach hr (by omega) rfl (pa_cons (pv 4) pa_nil)))
        (pss_cons (ps_set (i := 6) sc_law.nd rfl (Or.inl rfl) (pe_k c__law_statement hr (by omega) rfl (pa_cons (pv 2) (pa_cons (pv 3) (pa_cons (pe_op op_add pe_int (pe_k c__law_draw hr (by omega) rfl (pa_cons (pv 2) (pa_cons pe_int pa_nil)))) pa_nil)))))
        (pss_cons (ps_set (i := 7) sc_law.nd rfl (Or.inl rfl) (pe_k c__law_truths hr (by omega) rfl (pa_cons (pv 4) (pa_cons (pv 5) (pa_cons (pv 6) pa_nil)))))
        (pss_one (ps_for PassesOwn.never rfl (pi_range1 rfl T.n_range (pa_cons (pe_callB (r := rLenK K) call_len_seq rfl T.n_len (by decide +kernel) (pa_cons (pv 4) pa_nil)) pa_nil)) (pg_name (i := 8) sc_law.nd rfl (Or.inl rfl))
          (pss_one (ps_if (pt_not (pt_val (pe_k c__law_right hr (by omega) rfl (pa_cons (pv 4) (pa_cons (pv 8) (pa_cons (pe_dget (hu_of hr) (pv 5) (pv 8) (fun _ _ => rfl)) (pa_cons (pv 7) (pa_cons (pv 6) pa_nil))))))))
              (pss_one (ps_ret pe_bl))
              pss_nil)))))))))))
    (pss_one (ps_ret pe_bl))), ?_⟩
    refine ⟨sz2, fun l0 n0 => ⟨_, rfl, 12, rfl, a, _, rfl, (same_new n0).seq hS, fun pc npc => ?_⟩⟩
    have s1 : Same H (upd H l0 (.lst [.int 5, .int 12])) := same_new n0
    have el0 : (upd H l0 (.lst [.int 5, .int 12])) l0 = some (.lst [.int 5, .int 12]) := upd_same
    generalize upd H l0 (.lst [.int 5, .int 12]) = H1 at s1 el0 npc
    have s2 : Same H1 (upd H1 pc (.lst (cutV (ns.map V.int) none (some 12)))) := same_new npc
    have epc : (upd H1 pc (.lst (cutV (ns.map V.int) none (some 12)))) pc = some (.lst ((ns.take 12).map V.int)) := by
      rw [upd_same, show cutV (ns.map V.int) none (some 12) = (ns.map V.int).take 12 from cut_to _ 12, List.map_take]
    have el2 := s2 _ _ el0
    generalize upd H1 pc (.lst (cutV (ns.map V.int) none (some 12))) = H2 at s2 epc el2
    refine ⟨_, _, _, _, rfl, rfl, el2, epc, ?_, fun p np => ⟨p, rfl, ⟨_, SqL.of upd_same⟩, ?_⟩⟩
    · rw [List.length_map, List.length_take]
      exact small' (by show 2 + min 12 ns.length ≤ 100000; omega)
    have ep : (upd H2 p (.lst ([V.int 5, .int 12] ++ (ns.take 12).map V.int))) p = some (.lst ([V.int 5, .int 12] ++ (ns.take 12).map V.int)) := upd_same
    generalize upd H2 p (.lst ([V.int 5, .int 12] ++ (ns.take 12).map V.int)) = HP at ep
    refine for_list (K := K) (a := p) (xs := [V.int 5, .int 12] ++ (ns.take 12).map V.int) (fun i σ H3 => ∃ y1 y2 y3 y4 y5 y6 y7 y8 : Option V, σ = [some (.ref a), y1, y2, y3, y4, y5, y6, y7, y8] ∧ Same HP H3) ?_ ?_ ?_ ?_
    · exact ⟨_, _, _, _, _, _, _, _, rfl, Same.refl _⟩
    · rintro i σ H3 _ ⟨_, _, _, _, _, _, _, _, _, s3⟩
      exact SqL.of (s3 _ _ ep)
    · rintro i x σ H3 hx ⟨y1, y2, y3, y4, y5, y6, y7, y8, rfl, s3⟩
      obtain ⟨z, rfl⟩ : ∃ z : Int, x = .int z := by
        rcases List.mem_append.mp (List.mem_of_getElem? hx) with h | h
        · rcases List.mem_cons.mp h with rfl | h
          · exact ⟨_, rfl⟩
          · exact ⟨_, List.mem_singleton.mp h⟩
        · obtain ⟨z, _, rfl⟩ := List.mem_map.mp h
          exact ⟨z, rfl⟩
      refine ⟨_, rfl, z, rfl, fun H4 st s4 nst w4 => ?_⟩
      refine ⟨_, rfl, _, rfl, st, 4, rfl, w4, by decide, by decide, fun H6 r6 w6 r60 r61 => ?_⟩
      obtain ⟨k0, rfl, hk0⟩ := nat_of (n := 4) r60 r61
      refine ⟨_, _, rfl, rfl, st, 1 + k0, rfl, w6.w1, by omega, fun H7 pn ls w7 npn epn ll hnm _ => ?_⟩
      have nps : pn ≠ st := Wd.ne w6.w1 npn
      have w8 := w6.trans w7
      -- the growth
      refine ⟨_, rfl, _, rfl, st, pn, ls, 11, rfl, w8.w1, epn, nps, by omega, by decide, by decide, fun H9 L g w9 nL hg good g1 g2 => ?_⟩
      have epn9 := w9.bt _ _ nps epn
      have w49 := w8.trans w9
      have hl2 : ∀ s ∈ g, s.1.length ≤ 1000 ∧ s.2.length ≤ 1000 ∧ ∀ l ∈ s.1, Ch l := fun s hs => by
        have h1 := good.len1 hs
        have h2 := good.len2 hs
        exact ⟨by omega, by omega, fun l hl => (hnm l (good.mem hs hl)).ch⟩
      -- what is above
      refine ⟨_, rfl, L, g, rfl, hg.any, good.ok, by omega, fun s hs => (hl2 s hs).2.1, fun HA d sA rcA => ?_⟩
      have w4A := w49.then sA
      have rc0 : RcOk (· ≠ st) g HA d := rcA.imp fun x hx => Wd.ne w49.w1 hx
      have hgA := hg.same sA
      have epnA := sA _ _ epn9
      -- a statement
      refine ⟨_, rfl, _, rfl, _, rfl, st, 4, rfl, w4A.w1, by decide, by decide, fun H5 r5 w5 r50 r51 => ?_⟩
      obtain ⟨d1, rfl, hd1⟩ := nat_of (n := 4) r50 r51
      refine ⟨_, _, rfl, rfl, st, pn, ls, 1 + d1, rfl, w5.w1, w5.bt _ _ nps epnA, nps, fun z => by rw [z] at ll; simp at ll; omega, by omega, by omega, fun HB v s w6' i6 _ d6 => ?_⟩
      have wAB := w5.trans w6'
      have hgB := hgA.wd wAB
      have rcB := rc0.wd wAB
      have w4B := w4A.trans wAB
      have zs : s.size ≤ 10000 := by
        have h1 := Sm.size_le (s := s) (d := 4) (by omega)
        have : (2 : Nat) ^ (4 + 1) = 32 := by decide
        omega
      -- where it holds
      refine ⟨_, rfl, _, rfl, _, rfl, L, d, g, v, s, rfl, hgB.any, rcB.imp (fun _ _ => True.intro), good.ok, by omega, i6.sm, by omega, fun HC e bs sBC ne ee hb => ?_⟩
      have w4C := w4B.then sBC
      have hgC := hgB.same sBC
      have rcC := rcB.same sBC
      have iC := i6.ts (Same.ts sBC)
      obtain ⟨⟨ws, hpC, pwC⟩, _⟩ := id hgC
      have wl : ws.length = g.length := pair_len pwC
      obtain ⟨⟨kvs, hdC, hkey, kl, hF⟩, nds⟩ := id rcC
      have len2 : ((ws.length : Nat) : Int) = ((g.length : Nat) : Int) := by rw [wl]
      refine ⟨_, rfl, L, _, rfl, .inl (SqL.of hpC), _, rfl, by omega, by omega, ?_⟩
      refine for_range (lo := 0) (n := ws.length) (fun i σ HK => ∃ y8 : Option V, σ = [some (.ref a), some (.int z), some (.ref st), some (.ref pn), some (.ref L), some (.ref d), some v, some (.ref e), y8] ∧ Same HC HK) ?_ ?_ ?_
      · exact ⟨_, rfl, Same.refl _⟩
      · rintro i σ HK hi ⟨y8, rfl, sK⟩
        rw [wl] at hi
        obtain ⟨lk, ks, ev, elk, kmem, knd, ksr, _⟩ := hF i hi
        have eks : ks = rchL g i := rchL_is good.ok hi (srt_strict ksr knd) kmem
        subst eks
        refine ⟨_, rfl, _, rfl, _, rfl, _, rfl, d, .ref lk, rfl, .inl ⟨kvs, .inl (i : Int), .inl (sK _ _ hdC), by rw [Int.zero_add]; rfl, ev.symm⟩, _, rfl, _, rfl, L, lk, e, g, i, v, s, bs, by rw [Int.zero_add]; rfl, (hgC.same sK).any, good.ok, by omega, hi, hl2, sK _ _ elk, sK _ _ ee, hb, iC.ts (Same.ts sK), zs, fun H' s' => ⟨true, rfl, iteF ⟨_, rfl, sK.trans s'⟩⟩⟩
      · rintro σ HK ⟨y8, rfl, sK⟩
        exact ⟨_, _, _, _, _, _, _, _, rfl, (w4C.then sK).bt.same0 (s3.trans s4) (s3.free nst)⟩
    · rintro σ H3 ⟨y1, y2, y3, y4, y5, y6, y7, y8, rfl, s3⟩
      exact q H3
end
theorem all_law {P : Program} {w : World} {K : PySem.W.Frag} {mg : Str → Option Value} (T : Txt w K mg) {f : Addr} {fd : FuncData} (F : Fun K "law" "law" s_law f fd) (base : Heap) :
    FnOk P w K mg base CX0 8 f fd ["_law_script"] (sp_law K) := by
  have c_has := ok_has (P := P) (w := w) (base := base) T
  have c_together := ok_together (P := P) (w := w) (base := base) T
  have c__standing := ok_standing (P := P) (w := w) (base := base) T
  have c__numbers := ok_numbers (P := P) (w := w) (base := base) T
  have c_numbered := ok_numbered (P := P) (w := w) (base := base) T c__standing c__numbers
  have c_rows_of := ok_rows_of (P := P) (w := w) (base := base) T c_numbered
  have c__ups := ok_ups (P := P) (w := w) (base := base) T
  have c__with_letter := ok_with_letter (P := P) (w := w) (base := base) T c_together
  have c__with_joint := ok_with_joint (P := P) (w := w) (base := base) T c_together
  have c_where := ok_where (P := P) (w := w) (base := base) T c__ups c__with_letter c__with_joint
  have c_seen := ok_seen (P := P) (w := w) (base := base) T c_has c_rows_of c_where
  have c_above := ok_above (P := P) (w := w) (base := base) T c_has c__ups
  have c_cut := ok_cut (P := P) (w := w) (base := base) T c_above
  have c__law_well := ok_law_well (P := P) (w := w) (base := base) T
  have c__law_draw := ok_law_draw (P := P) (w := w) (base := base) T
  have c__law_names := ok_law_names (P := P) (w := w) (base := base) T c__law_draw
  have c__law_statement := ok_law_statement (P := P) (w := w) (base := base) T c__law_draw 6
  have c__law_growth := ok_law_growth (P := P) (w := w) (base := base) T c__law_draw
  have c__law_copied := ok_law_copied (P := P) (w := w) (base := base) T
  have c__law_reach := ok_law_reach (P := P) (w := w) (base := base) T
  have c__law_truths := ok_law_truths (P := P) (w := w) (base := base) T  6
  have c__law_cut := ok_law_cut (P := P) (w := w) (base := base) T
  have c__law_right := ok_law_right (P := P) (w := w) (base := base) T c_seen c_above c_cut c__law_copied c__law_cut
  exact ok_law T c__law_well c__law_draw c__law_names c__law_statement c__law_growth c__law_reach c__law_truths c__law_right F
set_option maxHeartbeats 2000000 in
theorem all_mk {l : PySem.W.OpenLaw} {w : World} {K : PySem.W.Frag} {h : Heap} {mg : Str → Option Value} {fa f0 f1 f2 f3 f4 f5 f6 f7 f8 f9 f10 f11 f12 f13 f14 f15 f16 f17 f18 f19 f20 f21 f22 f23 : Addr} (X : K.In h) (G : h.Ns mainGlobals mg) (hfa : mg "law" = some (.ref fa))
    {od0 an0 od1 an1 od2 an2 od3 an3 od4 an4 od5 an5 od6 an6 od7 an7 od8 an8 od9 an9 od10 an10 od11 an11 od12 an12 od13 an13 od14 an14 od15 an15 od16 an16 od17 an17 od18 an18 od19 an19 od20 an20 od21 an21 od22 an22 od23 an23 : Option Addr} {sl0 sl1 sl2 sl3 sl4 sl5 sl6 sl7 sl8 sl9 sl10 sl11 sl12 sl13 sl14 sl15 sl16 sl17 sl18 sl19 sl20 sl21 sl22 sl23 : Array (Option Value)} {oc0 kV0 dc0 pm0 cd0 ct0 oc1 kV1 dc1 pm1 cd1 ct1 oc2 kV2 dc2 pm2 cd2 ct2 oc3 kV3 dc3 pm3 cd3 ct3 oc4 kV4 dc4 pm4 cd4 ct4 oc5 kV5 dc5 pm5 cd5 ct5 oc6 kV6 dc6 pm6 cd6 ct6 oc7 kV7 dc7 pm7 cd7 ct7 oc8 kV8 dc8 pm8 cd8 ct8 oc9 kV9 dc9 pm9 cd9 ct9 oc10 kV10 dc10 pm10 cd10 ct10 oc11 kV11 dc11 pm11 cd11 ct11 oc12 kV12 dc12 pm12 cd12 ct12 oc13 kV13 dc13 pm13 cd13 ct13 oc14 kV14 dc14 pm14 cd14 ct14 oc15 kV15 dc15 pm15 cd15 ct15 oc16 kV16 dc16 pm16 cd16 ct16 oc17 kV17 dc17 pm17 cd17 ct17 oc18 kV18 dc18 pm18 cd18 ct18 oc19 kV19 dc19 pm19 cd19 ct19 oc20 kV20 dc20 pm20 cd20 ct20 oc21 kV21 dc21 pm21 cd21 ct21 oc22 kV22 dc22 pm22 cd22 ct22 oc23 kV23 dc23 pm23 cd23 ct23 : Value}
    (a0 : PySem.W.nsIn K mainGlobals "has" = some (some (.ref f0))) (l0 : K.lookup f0 = some ⟨oc0, od0, .func (PySem.W.fnOf "has" "has" (defArgs s_has) (defBody s_has) (defScope s_has) .none kV0 dc0 pm0 an0 cd0 ct0), sl0⟩) (c0 : PySem.W.codeIn K cd0 "has" = true) (k0 : PySem.W.keepIn K (.ref f0) = true)
    (a1 : PySem.W.nsIn K mainGlobals "together" = some (some (.ref f1))) (l1 : K.lookup f1 = some ⟨oc1, od1, .func (PySem.W.fnOf "together" "together" (defArgs s_together) (defBody s_together) (defScope s_together) .none kV1 dc1 pm1 an1 cd1 ct1), sl1⟩) (c1 : PySem.W.codeIn K cd1 "together" = true) (k1 : PySem.W.keepIn K (.ref f1) = true)
    (a2 : PySem.W.nsIn K mainGlobals "_standing" = some (some (.ref f2))) (l2 : K.lookup f2 = some ⟨oc2, od2, .func (PySem.W.fnOf "_standing" "_standing" (defArgs s_standing) (defBody s_standing) (defScope s_standing) .none kV2 dc2 pm2 an2 cd2 ct2), sl2⟩) (c2 : PySem.W.codeIn K cd2 "_standing" = true) (k2 : PySem.W.keepIn K (.ref f2) = true)
    (a3 : PySem.W.nsIn K mainGlobals "_numbers" = some (some (.ref f3))) (l3 : K.lookup f3 = some ⟨oc3, od3, .func (PySem.W.fnOf "_numbers" "_numbers" (defArgs s_numbers) (defBody s_numbers) (defScope s_numbers) .none kV3 dc3 pm3 an3 cd3 ct3), sl3⟩) (c3 : PySem.W.codeIn K cd3 "_numbers" = true) (k3 : PySem.W.keepIn K (.ref f3) = true)
    (a4 : PySem.W.nsIn K mainGlobals "numbered" = some (some (.ref f4))) (l4 : K.lookup f4 = some ⟨oc4, od4, .func (PySem.W.fnOf "numbered" "numbered" (defArgs s_numbered) (defBody s_numbered) (defScope s_numbered) .none kV4 dc4 pm4 an4 cd4 ct4), sl4⟩) (c4 : PySem.W.codeIn K cd4 "numbered" = true) (k4 : PySem.W.keepIn K (.ref f4) = true)
    (a5 : PySem.W.nsIn K mainGlobals "rows_of" = some (some (.ref f5))) (l5 : K.lookup f5 = some ⟨oc5, od5, .func (PySem.W.fnOf "rows_of" "rows_of" (defArgs s_rows_of) (defBody s_rows_of) (defScope s_rows_of) .none kV5 dc5 pm5 an5 cd5 ct5), sl5⟩) (c5 : PySem.W.codeIn K cd5 "rows_of" = true) (k5 : PySem.W.keepIn K (.ref f5) = true)
    (a6 : PySem.W.nsIn K mainGlobals "_ups" = some (some (.ref f6))) (l6 : K.lookup f6 = some ⟨oc6, od6, .func (PySem.W.fnOf "_ups" "_ups" (defArgs s_ups) (defBody s_ups) (defScope s_ups) .none kV6 dc6 pm6 an6 cd6 ct6), sl6⟩) (c6 : PySem.W.codeIn K cd6 "_ups" = true) (k6 : PySem.W.keepIn K (.ref f6) = true)
    (a7 : PySem.W.nsIn K mainGlobals "_with_letter" = some (some (.ref f7))) (l7 : K.lookup f7 = some ⟨oc7, od7, .func (PySem.W.fnOf "_with_letter" "_with_letter" (defArgs s_with_letter) (defBody s_with_letter) (defScope s_with_letter) .none kV7 dc7 pm7 an7 cd7 ct7), sl7⟩) (c7 : PySem.W.codeIn K cd7 "_with_letter" = true) (k7 : PySem.W.keepIn K (.ref f7) = true)
    (a8 : PySem.W.nsIn K mainGlobals "_with_joint" = some (some (.ref f8))) (l8 : K.lookup f8 = some ⟨oc8, od8, .func (PySem.W.fnOf "_with_joint" "_with_joint" (defArgs s_with_joint) (defBody s_with_joint) (defScope s_with_joint) .none kV8 dc8 pm8 an8 cd8 ct8), sl8⟩) (c8 : PySem.W.codeIn K cd8 "_with_joint" = true) (k8 : PySem.W.keepIn K (.ref f8) = true)
    (a9 : PySem.W.nsIn K mainGlobals "where" = some (some (.ref f9))) (l9 : K.lookup f9 = some ⟨oc9, od9, .func (PySem.W.fnOf "where" "where" (defArgs s_where) (defBody s_where) (defScope s_where) .none kV9 dc9 pm9 an9 cd9 ct9), sl9⟩) (c9 : PySem.W.codeIn K cd9 "where" = true) (k9 : PySem.W.keepIn K (.ref f9) = true)
    (a10 : PySem.W.nsIn K mainGlobals "seen" = some (some (.ref f10))) (l10 : K.lookup f10 = some ⟨oc10, od10, .func (PySem.W.fnOf "seen" "seen" (defArgs s_seen) (defBody s_seen) (defScope s_seen) .none kV10 dc10 pm10 an10 cd10 ct10), sl10⟩) (c10 : PySem.W.codeIn K cd10 "seen" = true) (k10 : PySem.W.keepIn K (.ref f10) = true)
    (a11 : PySem.W.nsIn K mainGlobals "above" = some (some (.ref f11))) (l11 : K.lookup f11 = some ⟨oc11, od11, .func (PySem.W.fnOf "above" "above" (defArgs s_above) (defBody s_above) (defScope s_above) .none kV11 dc11 pm11 an11 cd11 ct11), sl11⟩) (c11 : PySem.W.codeIn K cd11 "above" = true) (k11 : PySem.W.keepIn K (.ref f11) = true)
    (a12 : PySem.W.nsIn K mainGlobals "cut" = some (some (.ref f12))) (l12 : K.lookup f12 = some ⟨oc12, od12, .func (PySem.W.fnOf "cut" "cut" (defArgs s_cut) (defBody s_cut) (defScope s_cut) .none kV12 dc12 pm12 an12 cd12 ct12), sl12⟩) (c12 : PySem.W.codeIn K cd12 "cut" = true) (k12 : PySem.W.keepIn K (.ref f12) = true)
    (a13 : PySem.W.nsIn K mainGlobals "_law_well" = some (some (.ref f13))) (l13 : K.lookup f13 = some ⟨oc13, od13, .func (PySem.W.fnOf "_law_well" "_law_well" (defArgs s_law_well) (defBody s_law_well) (defScope s_law_well) .none kV13 dc13 pm13 an13 cd13 ct13), sl13⟩) (c13 : PySem.W.codeIn K cd13 "_law_well" = true) (k13 : PySem.W.keepIn K (.ref f13) = true)
    (a14 : PySem.W.nsIn K mainGlobals "_law_draw" = some (some (.ref f14))) (l14 : K.lookup f14 = some ⟨oc14, od14, .func (PySem.W.fnOf "_law_draw" "_law_draw" (defArgs s_law_draw) (defBody s_law_draw) (defScope s_law_draw) .none kV14 dc14 pm14 an14 cd14 ct14), sl14⟩) (c14 : PySem.W.codeIn K cd14 "_law_draw" = true) (k14 : PySem.W.keepIn K (.ref f14) = true)
    (a15 : PySem.W.nsIn K mainGlobals "_law_names" = some (some (.ref f15))) (l15 : K.lookup f15 = some ⟨oc15, od15, .func (PySem.W.fnOf "_law_names" "_law_names" (defArgs s_law_names) (defBody s_law_names) (defScope s_law_names) .none kV15 dc15 pm15 an15 cd15 ct15), sl15⟩) (c15 : PySem.W.codeIn K cd15 "_law_names" = true) (k15 : PySem.W.keepIn K (.ref f15) = true)
    (a16 : PySem.W.nsIn K mainGlobals "_law_statement" = some (some (.ref f16))) (l16 : K.lookup f16 = some ⟨oc16, od16, .func (PySem.W.fnOf "_law_statement" "_law_statement" (defArgs s_law_statement) (defBody s_law_statement) (defScope s_law_statement) .none kV16 dc16 pm16 an16 cd16 ct16), sl16⟩) (c16 : PySem.W.codeIn K cd16 "_law_statement" = true) (k16 : PySem.W.keepIn K (.ref f16) = true)
    (a17 : PySem.W.nsIn K mainGlobals "_law_growth" = some (some (.ref f17))) (l17 : K.lookup f17 = some ⟨oc17, od17, .func (PySem.W.fnOf "_law_growth" "_law_growth" (defArgs s_law_growth) (defBody s_law_growth) (defScope s_law_growth) .none kV17 dc17 pm17 an17 cd17 ct17), sl17⟩) (c17 : PySem.W.codeIn K cd17 "_law_growth" = true) (k17 : PySem.W.keepIn K (.ref f17) = true)
    (a18 : PySem.W.nsIn K mainGlobals "_law_copied" = some (some (.ref f18))) (l18 : K.lookup f18 = some ⟨oc18, od18, .func (PySem.W.fnOf "_law_copied" "_law_copied" (defArgs s_law_copied) (defBody s_law_copied) (defScope s_law_copied) .none kV18 dc18 pm18 an18 cd18 ct18), sl18⟩) (c18 : PySem.W.codeIn K cd18 "_law_copied" = true) (k18 : PySem.W.keepIn K (.ref f18) = true)
    (a19 : PySem.W.nsIn K mainGlobals "_law_reach" = some (some (.ref f19))) (l19 : K.lookup f19 = some ⟨oc19, od19, .func (PySem.W.fnOf "_law_reach" "_law_reach" (defArgs s_law_reach) (defBody s_law_reach) (defScope s_law_reach) .none kV19 dc19 pm19 an19 cd19 ct19), sl19⟩) (c19 : PySem.W.codeIn K cd19 "_law_reach" = true) (k19 : PySem.W.keepIn K (.ref f19) = true)
    (a20 : PySem.W.nsIn K mainGlobals "_law_truths" = some (some (.ref f20))) (l20 : K.lookup f20 = some ⟨oc20, od20, .func (PySem.W.fnOf "_law_truths" "_law_truths" (defArgs s_law_truths) (defBody s_law_truths) (defScope s_law_truths) .none kV20 dc20 pm20 an20 cd20 ct20), sl20⟩) (c20 : PySem.W.codeIn K cd20 "_law_truths" = true) (k20 : PySem.W.keepIn K (.ref f20) = true)
    (a21 : PySem.W.nsIn K mainGlobals "_law_cut" = some (some (.ref f21))) (l21 : K.lookup f21 = some ⟨oc21, od21, .func (PySem.W.fnOf "_law_cut" "_law_cut" (defArgs s_law_cut) (defBody s_law_cut) (defScope s_law_cut) .none kV21 dc21 pm21 an21 cd21 ct21), sl21⟩) (c21 : PySem.W.codeIn K cd21 "_law_cut" = true) (k21 : PySem.W.keepIn K (.ref f21) = true)
    (a22 : PySem.W.nsIn K mainGlobals "_law_right" = some (some (.ref f22))) (l22 : K.lookup f22 = some ⟨oc22, od22, .func (PySem.W.fnOf "_law_right" "_law_right" (defArgs s_law_right) (defBody s_law_right) (defScope s_law_right) .none kV22 dc22 pm22 an22 cd22 ct22), sl22⟩) (c22 : PySem.W.codeIn K cd22 "_law_right" = true) (k22 : PySem.W.keepIn K (.ref f22) = true)
    (a23 : PySem.W.nsIn K mainGlobals "law" = some (some (.ref f23))) (l23 : K.lookup f23 = some ⟨oc23, od23, .func (PySem.W.fnOf "law" "law" (defArgs s_law) (defBody s_law) (defScope s_law) .none kV23 dc23 pm23 an23 cd23 ct23), sl23⟩) (c23 : PySem.W.codeIn K cd23 "law" = true) (k23 : PySem.W.keepIn K (.ref f23) = true)
    (z0 : PySem.W.nsIn K mainGlobals "all" = some none)
    (z1 : PySem.W.nsIn K mainGlobals "enumerate" = some none)
    (z2 : PySem.W.nsIn K mainGlobals "int" = some none)
    (z3 : PySem.W.nsIn K mainGlobals "isinstance" = some none)
    (z4 : PySem.W.nsIn K mainGlobals "len" = some none)
    (z5 : PySem.W.nsIn K mainGlobals "list" = some none)
    (z6 : PySem.W.nsIn K mainGlobals "range" = some none)
    (z7 : PySem.W.nsIn K mainGlobals "reversed" = some none)
    (z8 : PySem.W.nsIn K mainGlobals "sorted" = some none)
    : ∃ fd : FuncData, (∀ (s : Shared) (v : Value), BindsTo s fd ⟨[v], []⟩ [("_law_script", v)]) ∧ ∀ base : Heap, K.In base → base.Ns mainGlobals mg → FnOk l.prog w K mg base CX0 8 fa fd ["_law_script"] (sp_law K) := by
  have F0 := fun_mk (st := s_has) l0 c0 k0
  have b0 := F0.binds (ps := ["some", "k"]) fun _ _ _ _ _ _ us hl => match us, hl with | [_, _], _ => rfl
  have F1 := fun_mk (st := s_together) l1 c1 k1
  have b1 := F1.binds (ps := ["numbers"]) fun _ _ _ _ _ _ us hl => match us, hl with | [_], _ => rfl
  have F2 := fun_mk (st := s_standing) l2 c2 k2
  have b2 := F2.binds (ps := ["a"]) fun _ _ _ _ _ _ us hl => match us, hl with | [_], _ => rfl
  have F3 := fun_mk (st := s_numbers) l3 c3 k3
  have b3 := F3.binds (ps := ["standing", "known"]) fun _ _ _ _ _ _ us hl => match us, hl with | [_, _], _ => rfl
  have F4 := fun_mk (st := s_numbered) l4 c4 k4
  have b4 := F4.binds (ps := ["statements"]) fun _ _ _ _ _ _ us hl => match us, hl with | [_], _ => rfl
  have F5 := fun_mk (st := s_rows_of) l5 c5 k5
  have b5 := F5.binds (ps := ["statements"]) fun _ _ _ _ _ _ us hl => match us, hl with | [_], _ => rfl
  have F6 := fun_mk (st := s_ups) l6 c6 k6
  have b6 := F6.binds (ps := ["growth"]) fun _ _ _ _ _ _ us hl => match us, hl with | [_], _ => rfl
  have F7 := fun_mk (st := s_with_letter) l7 c7 k7
  have b7 := F7.binds (ps := ["growth", "name"]) fun _ _ _ _ _ _ us hl => match us, hl with | [_, _], _ => rfl
  have F8 := fun_mk (st := s_with_joint) l8 c8 k8
  have b8 := F8.binds (ps := ["ups", "word", "left", "right"]) fun _ _ _ _ _ _ us hl => match us, hl with | [_, _, _, _], _ => rfl
  have F9 := fun_mk (st := s_where) l9 c9 k9
  have b9 := F9.binds (ps := ["growth", "rows"]) fun _ _ _ _ _ _ us hl => match us, hl with | [_, _], _ => rfl
  have F10 := fun_mk (st := s_seen) l10 c10 k10
  have b10 := F10.binds (ps := ["growth", "a"]) fun _ _ _ _ _ _ us hl => match us, hl with | [_, _], _ => rfl
  have F11 := fun_mk (st := s_above) l11 c11 k11
  have b11 := F11.binds (ps := ["growth", "k"]) fun _ _ _ _ _ _ us hl => match us, hl with | [_, _], _ => rfl
  have F12 := fun_mk (st := s_cut) l12 c12 k12
  have b12 := F12.binds (ps := ["growth", "k"]) fun _ _ _ _ _ _ us hl => match us, hl with | [_, _], _ => rfl
  have F13 := fun_mk (st := s_law_well) l13 c13 k13
  have b13 := F13.binds (ps := ["_law_cell"]) fun _ _ _ _ _ _ us hl => match us, hl with | [_], _ => rfl
  have F14 := fun_mk (st := s_law_draw) l14 c14 k14
  have b14 := F14.binds (ps := ["_law_well_here", "_law_most"]) fun _ _ _ _ _ _ us hl => match us, hl with | [_, _], _ => rfl
  have F15 := fun_mk (st := s_law_names) l15 c15 k15
  have b15 := F15.binds (ps := ["_law_well_here", "_law_many"]) fun _ _ _ _ _ _ us hl => match us, hl with | [_, _], _ => rfl
  have F16 := fun_mk (st := s_law_statement) l16 c16 k16
  have b16 := F16.binds (ps := ["_law_well_here", "_law_names_here", "_law_down"]) fun _ _ _ _ _ _ us hl => match us, hl with | [_, _, _], _ => rfl
  have F17 := fun_mk (st := s_law_growth) l17 c17 k17
  have b17 := F17.binds (ps := ["_law_well_here", "_law_names_here", "_law_most"]) fun _ _ _ _ _ _ us hl => match us, hl with | [_, _, _], _ => rfl
  have F18 := fun_mk (st := s_law_copied) l18 c18 k18
  have b18 := F18.binds (ps := ["_law_growth_here"]) fun _ _ _ _ _ _ us hl => match us, hl with | [_], _ => rfl
  have F19 := fun_mk (st := s_law_reach) l19 c19 k19
  have b19 := F19.binds (ps := ["_law_growth_here"]) fun _ _ _ _ _ _ us hl => match us, hl with | [_], _ => rfl
  have F20 := fun_mk (st := s_law_truths) l20 c20 k20
  have b20 := F20.binds (ps := ["_law_growth_here", "_law_reach_here", "_law_a"]) fun _ _ _ _ _ _ us hl => match us, hl with | [_, _, _], _ => rfl
  have F21 := fun_mk (st := s_law_cut) l21 c21 k21
  have b21 := F21.binds (ps := ["_law_growth_here", "_law_row"]) fun _ _ _ _ _ _ us hl => match us, hl with | [_, _], _ => rfl
  have F22 := fun_mk (st := s_law_right) l22 c22 k22
  have b22 := F22.binds (ps := ["_law_growth_here", "_law_k", "_law_row", "_law_truths_here", "_law_a"]) fun _ _ _ _ _ _ us hl => match us, hl with | [_, _, _, _, _], _ => rfl
  have F23 := fun_mk (st := s_law) l23 c23 k23
  have b23 := F23.binds (ps := ["_law_script"]) fun _ _ _ _ _ _ us hl => match us, hl with | [_], _ => rfl
  have T : Txt w K mg := {
    n_all := PySem.W.mg_none_of X G z0,
    n_enumerate := PySem.W.mg_none_of X G z1,
    n_int := PySem.W.mg_none_of X G z2,
    n_isinstance := PySem.W.mg_none_of X G z3,
    n_len := PySem.W.mg_none_of X G z4,
    n_list := PySem.W.mg_none_of X G z5,
    n_range := PySem.W.mg_none_of X G z6,
    n_reversed := PySem.W.mg_none_of X G z7,
    n_sorted := PySem.W.mg_none_of X G z8,
    d_has := ⟨_, _, F0, PySem.W.mg_of X G a0, b0⟩,
    d_together := ⟨_, _, F1, PySem.W.mg_of X G a1, b1⟩,
    d_standing := ⟨_, _, F2, PySem.W.mg_of X G a2, b2⟩,
    d_numbers := ⟨_, _, F3, PySem.W.mg_of X G a3, b3⟩,
    d_numbered := ⟨_, _, F4, PySem.W.mg_of X G a4, b4⟩,
    d_rows_of := ⟨_, _, F5, PySem.W.mg_of X G a5, b5⟩,
    d_ups := ⟨_, _, F6, PySem.W.mg_of X G a6, b6⟩,
    d_with_letter := ⟨_, _, F7, PySem.W.mg_of X G a7, b7⟩,
    d_with_joint := ⟨_, _, F8, PySem.W.mg_of X G a8, b8⟩,
    d_where := ⟨_, _, F9, PySem.W.mg_of X G a9, b9⟩,
    d_seen := ⟨_, _, F10, PySem.W.mg_of X G a10, b10⟩,
    d_above := ⟨_, _, F11, PySem.W.mg_of X G a11, b11⟩,
    d_cut := ⟨_, _, F12, PySem.W.mg_of X G a12, b12⟩,
    d_law_well := ⟨_, _, F13, PySem.W.mg_of X G a13, b13⟩,
    d_law_draw := ⟨_, _, F14, PySem.W.mg_of X G a14, b14⟩,
    d_law_names := ⟨_, _, F15, PySem.W.mg_of X G a15, b15⟩,
    d_law_statement := ⟨_, _, F16, PySem.W.mg_of X G a16, b16⟩,
    d_law_growth := ⟨_, _, F17, PySem.W.mg_of X G a17, b17⟩,
    d_law_copied := ⟨_, _, F18, PySem.W.mg_of X G a18, b18⟩,
    d_law_reach := ⟨_, _, F19, PySem.W.mg_of X G a19, b19⟩,
    d_law_truths := ⟨_, _, F20, PySem.W.mg_of X G a20, b20⟩,
    d_law_cut := ⟨_, _, F21, PySem.W.mg_of X G a21, b21⟩,
    d_law_right := ⟨_, _, F22, PySem.W.mg_of X G a22, b22⟩,
    d_law := ⟨_, _, F23, PySem.W.mg_of X G a23, b23⟩ }
  have e := hfa.symm.trans (PySem.W.mg_of X G a23)
  cases e
  exact ⟨PySem.W.fnOf "law" "law" (defArgs s_law) (defBody s_law) (defScope s_law) .none kV23 dc23 pm23 an23 cd23 ct23, fun s v => .of_eq rfl, fun base _ _ => all_law T F23 base⟩
end Ob
open PySem PySem.W PyProof.Rows
set_option maxRecDepth 100000 in
set_option maxHeartbeats 0 in
theorem PySem.Challenge.cw_onlybuilt_k13_above_and_cut_holds : PySem.Challenge.rw_onlybuilt_k13_above_and_cut.Holds := by
  w_on; o_law; k_head; (case hw => w_witness2)
  k_fill
  refine L2.walk_of (l := PySem.Challenge.rw_onlybuilt_k13_above_and_cut) (n := 63) (k := 8) (x := "_law_script") (CX := fun _ => L2.CX0) (sp := fun w => Ob.sp_law _) rfl (by decide) rfl ⟨rfl, by decide, by decide⟩ (fun w h Y => PySem.W.kIn_of Y) ?F (fun _ _ a ns hl _ hS => ⟨a, ns, rfl, hS, hl, fun _ => rfl⟩) (fun _ _ _ _ _ h => h)
  case F =>
    intro w mg fa h KX G hmg
    refine' Ob.all_mk KX G hmg ?a0 ?l0 ?c0 ?k0 ?a1 ?l1 ?c1 ?k1 ?a2 ?l2 ?c2 ?k2 ?a3 ?l3 ?c3 ?k3 ?a4 ?l4 ?c4 ?k4 ?a5 ?l5 ?c5 ?k5 ?a6 ?l6 ?c6 ?k6 ?a7 ?l7 ?c7 ?k7 ?a8 ?l8 ?c8 ?k8 ?a9 ?l9 ?c9 ?k9 ?a10 ?l10 ?c10 ?k10 ?a11 ?l11 ?c11 ?k11 ?a12 ?l12 ?c12 ?k12 ?a13 ?l13 ?c13 ?k13 ?a14 ?l14 ?c14 ?k14 ?a15 ?l15 ?c15 ?k15 ?a16 ?l16 ?c16 ?k16 ?a17 ?l17 ?c17 ?k17 ?a18 ?l18 ?c18 ?k18 ?a19 ?l19 ?c19 ?k19 ?a20 ?l20 ?c20 ?k20 ?a21 ?l21 ?c21 ?k21 ?a22 ?l22 ?c22 ?k22 ?a23 ?l23 ?c23 ?k23 ?z0 ?z1 ?z2 ?z3 ?z4 ?z5 ?z6 ?z7 ?z8 
    (case a0 => k_is); (case l0 => k_is); (case c0 => k_is); (case k0 => k_is)
    (case a1 => k_is); (case l1 => k_is); (case c1 => k_is); (case k1 => k_is)
    (case a2 => k_is); (case l2 => k_is); (case c2 => k_is); (case k2 => k_is)
    (case a3 => k_is); (case l3 => k_is); (case c3 => k_is); (case k3 => k_is)
    (case a4 => k_is); (case l4 => k_is); (case c4 => k_is); (case k4 => k_is)
    (case a5 => k_is); (case l5 => k_is); (case c5 => k_is); (case k5 => k_is)
    (case a6 => k_is); (case l6 => k_is); (case c6 => k_is); (case k6 => k_is)
    (case a7 => k_is); (case l7 => k_is); (case c7 => k_is); (case k7 => k_is)
    (case a8 => k_is); (case l8 => k_is); (case c8 => k_is); (case k8 => k_is)
    (case a9 => k_is); (case l9 => k_is); (case c9 => k_is); (case k9 => k_is)
    (case a10 => k_is); (case l10 => k_is); (case c10 => k_is); (case k10 => k_is)
    (case a11 => k_is); (case l11 => k_is); (case c11 => k_is); (case k11 => k_is)
    (case a12 => k_is); (case l12 => k_is); (case c12 => k_is); (case k12 => k_is)
    (case a13 => k_is); (case l13 => k_is); (case c13 => k_is); (case k13 => k_is)
    (case a14 => k_is); (case l14 => k_is); (case c14 => k_is); (case k14 => k_is)
    (case a15 => k_is); (case l15 => k_is); (case c15 => k_is); (case k15 => k_is)
    (case a16 => k_is); (case l16 => k_is); (case c16 => k_is); (case k16 => k_is)
    (case a17 => k_is); (case l17 => k_is); (case c17 => k_is); (case k17 => k_is)
    (case a18 => k_is); (case l18 => k_is); (case c18 => k_is); (case k18 => k_is)
    (case a19 => k_is); (case l19 => k_is); (case c19 => k_is); (case k19 => k_is)
    (case a20 => k_is); (case l20 => k_is); (case c20 => k_is); (case k20 => k_is)
    (case a21 => k_is); (case l21 => k_is); (case c21 => k_is); (case k21 => k_is)
    (case a22 => k_is); (case l22 => k_is); (case c22 => k_is); (case k22 => k_is)
    (case a23 => k_is); (case l23 => k_is); (case c23 => k_is); (case k23 => k_is)
    (case z0 => k_is)
    (case z1 => k_is)
    (case z2 => k_is)
    (case z3 => k_is)
    (case z4 => k_is)
    (case z5 => k_is)
    (case z6 => k_is)
    (case z7 => k_is)
    (case z8 => k_is)
