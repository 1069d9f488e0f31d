import PyProof.Rows.All
import Wide.All
import OpenK.AllK
import Wide.FinOn
import HandS.ForMost
import HandS.IsInst
import HandS.Codes
import PySem.Challenge.RW_onlybuilt_k01_joints_and_knots
set_option Elab.async false
set_option linter.all false
set_option maxRecDepth 100000
/-! ### heaps -/
namespace Ob
open PySem PySem.Spec PyProof.Rows L2

theorem seqT {K : PySem.W.Frag} {H H' : Hp} {a : Addr} {xs : List V} (e : Same H H') (h : SqT K H a xs) : SqT K H' a xs := by
  rcases h with (h | ⟨o, h⟩) | h
  · exact .inl (.inl (e _ _ h))
  · exact .inl (.inr ⟨o, e _ _ h⟩)
  · exact .inr h
theorem same_new {H : Hp} {p : Addr} {o : HO} (h : H p = none) : Same H (upd H p o) := fun b x e => by
  rw [upd_ne (ne_of_none e h)]
  exact e
theorem same_put {H H' : Hp} {p : Addr} {o : HO} (s : Same H H') (h : H p = none) : Same H (upd H' p o) := fun b x e => by
  rw [upd_ne (ne_of_none e h)]
  exact s b x e
/-- the tuples stay -/
def TK (K : PySem.W.Frag) (H H' : Hp) : Prop := ∀ a xs, SqT K H a xs → SqT K H' a xs
theorem Same.tk {K : PySem.W.Frag} {H H' : Hp} (e : Same H H') : TK K H H' := fun _ _ h => seqT e h
theorem TK.refl {K : PySem.W.Frag} {H : Hp} : TK K H H := fun _ _ h => h
theorem TK.trans {K : PySem.W.Frag} {H H1 H2 : Hp} (a : TK K H H1) (b : TK K H1 H2) : TK K H H2 := fun x y h => b x y (a x y h)
theorem TK.lst {K : PySem.W.Frag} {H : Hp} {p : Addr} {xs : List V} {o : HO} (h : H p = some (.lst xs)) : TK K H (upd H p o) := fun a ys q => by
  rcases q with (q | ⟨ob, q⟩) | q
  · exact .inl (.inl (by rw [upd_ne (ne_of q h (by intro z; cases z))]; exact q))
  · exact .inl (.inr ⟨ob, by rw [upd_ne (ne_of q h (by intro z; cases z))]; exact q⟩)
  · exact .inr q
theorem TK.new {K : PySem.W.Frag} {H : Hp} {p : Addr} {o : HO} (h : H p = none) : TK K H (upd H p o) := Same.tk (same_new h)
theorem tyL {K : PySem.W.Frag} {H : Hp} {p : Addr} {xs : List V} (h : H p = some (.lst xs)) : tyV K "list" (.ref p) H := .inl ⟨rfl, _, .inl (.inl h)⟩
theorem at0 {x : V} {xs : List V} : atI (x :: xs) 0 = some x := atI_nat (j := 0) rfl
theorem at1 {x y : V} {xs : List V} : atI (x :: y :: xs) 1 = some y := atI_nat (j := 1) rfl
theorem at2 {x y z : V} {xs : List V} : atI (x :: y :: z :: xs) 2 = some z := atI_nat (j := 2) rfl
theorem last_rev {x : V} {xs : List V} : (x :: xs).reverse[(x :: xs).reverse.length - 1]? = some x := by
  rw [List.reverse_cons, List.length_append, List.length_singleton, Nat.add_sub_cancel, List.getElem?_append_right (Nat.le_refl _), Nat.sub_self]
  rfl
theorem drop_rev {x : V} {xs : List V} : (x :: xs).reverse.dropLast = xs.reverse := by
  rw [List.reverse_cons, List.dropLast_concat]
theorem add_rev {x : V} {xs : List V} : xs.reverse ++ [x] = (x :: xs).reverse := (List.reverse_cons).symm
theorem emp_rev {x : V} {xs : List V} : (!(x :: xs).reverse.isEmpty) = true := by
  rw [List.reverse_cons]
  cases xs.reverse <;> rfl
theorem small {n : Nat} (h : n ≤ 100000) : n < sizeLine := Nat.lt_of_le_of_lt h (by decide)
theorem small' {n : Nat} (h : n ≤ 100000) : n ≤ sizeLine := Nat.le_of_lt (small h)
theorem sz0 : ([] : List V).length ≤ sizeLine := by show 0 ≤ sizeLine; decide
theorem sz1 {a : V} : [a].length ≤ sizeLine := by show 1 ≤ sizeLine; decide
theorem sz2 {a b : V} : [a, b].length ≤ sizeLine := by show 2 ≤ sizeLine; decide
theorem sz3 {a b c : V} : [a, b, c].length ≤ sizeLine := by show 3 ≤ sizeLine; decide
theorem sz4 {a b c d : V} : [a, b, c, d].length ≤ sizeLine := by show 4 ≤ sizeLine; decide
theorem pair_app {α β : Type} {R : α → β → Prop} : ∀ {xs ys : List α} {us ws : List β}, Paired R xs us → Paired R ys ws → Paired R (xs ++ ys) (us ++ ws)
  | _, _, _, _, .nil, s => s
  | _, _, _, _, .cons r t, s => .cons r (pair_app t s)
theorem pair_len {α β : Type} {R : α → β → Prop} : ∀ {xs : List α} {us : List β}, Paired R xs us → xs.length = us.length
  | _, _, .nil => rfl
  | _, _, .cons _ t => by rw [List.length_cons, List.length_cons, pair_len t]
theorem pair_map {α β : Type} {R S : α → β → Prop} (h : ∀ a b, R a b → S a b) : ∀ {xs : List α} {us : List β}, Paired R xs us → Paired S xs us
  | _, _, .nil => .nil
  | _, _, .cons r t => .cons (h _ _ r) (pair_map h t)
theorem pair_get {α β : Type} {R : α → β → Prop} : ∀ {xs : List α} {us : List β} {i : Nat} {x : α}, Paired R xs us → xs[i]? = some x → ∃ u, us[i]? = some u ∧ R x u
  | _, _, _, _, .nil, e => by simp at e
  | _, _, 0, x, .cons r _, e => by
    have e' := Option.some.inj e
    subst e'
    exact ⟨_, rfl, r⟩
  | _, _, i + 1, x, .cons _ t, e => by
    obtain ⟨u, h1, h2⟩ := pair_get (i := i) (x := x) t (by simpa using e)
    exact ⟨u, by simpa using h1, h2⟩

/-! ### statements -/
inductive J where
  | and | or | thn
  deriving DecidableEq
def J.s : J → Str
  | .and => "and" | .or => "or" | .thn => "then"
inductive Sm where
  | lt (n : List Nat) | nv | bin (w : J) (a b : Sm)
  deriving DecidableEq
def Sm.size : Sm → Nat
  | .lt _ => 1
  | .nv => 1
  | .bin _ a b => a.size + b.size + 1
def Sm.joints : Sm → Nat
  | .lt _ => 0
  | .nv => 0
  | .bin _ a b => a.joints + b.joints + 1
theorem Sm.size_joints : ∀ s : Sm, s.size = 2 * s.joints + 1
  | .lt _ => rfl
  | .nv => rfl
  | .bin _ a b => by
    have h1 := a.size_joints
    have h2 := b.size_joints
    show a.size + b.size + 1 = 2 * (a.joints + b.joints + 1) + 1
    omega
theorem Sm.size_pos (s : Sm) : 0 < s.size := by rw [s.size_joints]; omega
def Sm.isBin : Sm → Bool
  | .bin _ _ _ => true
  | _ => false
def Sm.standing : Sm → List Sm
  | .lt n => [.lt n]
  | .nv => [.nv]
  | .bin w a b => .bin w a b :: (a.standing ++ b.standing)
theorem Sm.len_standing : ∀ s : Sm, s.standing.length = s.size
  | .lt _ => rfl
  | .nv => rfl
  | .bin w a b => by
    show (Sm.bin w a b :: (a.standing ++ b.standing)).length = a.size + b.size + 1
    rw [List.length_cons, List.length_append, a.len_standing, b.len_standing]
theorem Sm.bin_standing : ∀ s : Sm, (s.standing.filter Sm.isBin).length = s.joints
  | .lt _ => rfl
  | .nv => rfl
  | .bin w a b => by
    show ((Sm.bin w a b :: (a.standing ++ b.standing)).filter Sm.isBin).length = a.joints + b.joints + 1
    rw [List.filter_cons_of_pos rfl, List.length_cons, List.filter_append, List.length_append, a.bin_standing, b.bin_standing]
/-- all letters are such -/
def Sm.In (p : List Nat → Prop) : Sm → Prop
  | .lt n => p n
  | .nv => True
  | .bin _ a b => a.In p ∧ b.In p
theorem Sm.In.imp {p q : List Nat → Prop} (h : ∀ l, p l → q l) : ∀ {s : Sm}, s.In p → s.In q
  | .lt _, g => h _ g
  | .nv, _ => True.intro
  | .bin _ a b, g => ⟨Sm.In.imp h (s := a) g.1, Sm.In.imp h (s := b) g.2⟩
/-- knots, c: within the left part of a then -/
def Sm.kn (c : Bool) : Sm → Nat
  | .lt _ => 0
  | .nv => 0
  | .bin w a b => (if w = .or ∨ (w = .thn ∧ c = true) then 1 else 0) + a.kn (c || decide (w = .thn)) + b.kn c
/-- the value v is the statement s -/
inductive IsSm (K : PySem.W.Frag) (H : Hp) : V → Sm → Prop where
  | lt {a : Addr} {n : List Nat} : SqT K H a [.str "letter", .str (SX.S n)] → IsSm K H (.ref a) (.lt n)
  | nv {a : Addr} : SqT K H a [.str "never"] → IsSm K H (.ref a) .nv
  | bin {a : Addr} {w : J} {l r : V} {s t : Sm} : SqT K H a [.str w.s, l, r] → IsSm K H l s → IsSm K H r t → IsSm K H (.ref a) (.bin w s t)
theorem IsSm.tk {K : PySem.W.Frag} {H H' : Hp} (k : TK K H H') {v : V} {s : Sm} (h : IsSm K H v s) : IsSm K H' v s := by
  induction h with
  | lt h => exact .lt (k _ _ h)
  | nv h => exact .nv (k _ _ h)
  | bin h _ _ i1 i2 => exact .bin (k _ _ h) i1 i2
theorem IsSm.same {K : PySem.W.Frag} {H H' : Hp} (e : Same H H') {v : V} {s : Sm} (h : IsSm K H v s) : IsSm K H' v s := h.tk (Same.tk e)
/-- what is read of a statement's tuple -/
def Sm.len : Sm → Nat
  | .lt _ => 2
  | .nv => 1
  | .bin _ _ _ => 3
theorem IsSm.tup {K : PySem.W.Frag} {H : Hp} {v : V} {s : Sm} (h : IsSm K H v s) : ∃ a xs, v = .ref a ∧ SqT K H a xs ∧ xs.length = s.len := by
  cases h with
  | lt h => exact ⟨_, _, rfl, h, rfl⟩
  | nv h => exact ⟨_, _, rfl, h, rfl⟩
  | bin h _ _ => exact ⟨_, _, rfl, h, rfl⟩

/-! ### defs -/
section
variable (P : Program) (w : World) (K : PySem.W.Frag) (mg : Str → Option Value) (base : Heap)
/-- a def of the text -/
structure Df (x : Str) (st : Stmt) (ps : List Str) : Prop where
  ex : ∃ (f : Addr) (fd : FuncData), Fun K x x st f fd ∧ mg x = some (.ref f) ∧ Binds K fd ps []
/-- a def's promise -/
structure Cl (k : Nat) (x : Str) (sp : Sp) : Prop where
  ex : ∃ (f : Addr) (fd : FuncData) (ps : List Str), FnOk P w K mg base CX0 k f fd ps sp ∧ mg x = some (.ref f) ∧ PySem.W.keepIn K (.ref f) = true ∧ Binds K fd ps []
end
section
variable {P : Program} {w : World} {K : PySem.W.Frag} {mg : Str → Option Value} {base : Heap}
theorem Df.ok {x : Str} {st : Stmt} {ps N : List Str} {k : Nat} {sp : Sp} (D : Df K mg x st ps) (S : FnScope N ps (defScope st)) (len : ∀ vs H Q E, sp vs H Q E → vs.length = ps.length)
    (hbody : ∀ (f : Addr) (cdv : Value) (A : Around) (outer : List Env) (s : Shared) (H : Hp) (vs : List V) (Q : VK) (E : XK), Room k (A.deeper (envOfC x (defScope st) s.heap.objs.size f cdv)) → sp vs H Q E →
      ∃ t, PSs (cxOf CX0 P w K mg base N x (defScope st) f cdv A outer s H E).nox (defBody st) t ∧ t { nx := fun _ H' => Q .non H', rt := Q } (start N vs) H) : Cl P w K mg base (k + 1) x sp := by
  obtain ⟨f, fd, F, m, b⟩ := D.ex
  exact ⟨f, fd, ps, F.ok S len (hbody f), m, F.kp, b⟩
theorem Df.none {x : Str} {st : Stmt} {ps : List Str} {sp : Sp} (D : Df K mg x st ps) (no : ∀ vs H Q E, ¬ sp vs H Q E) : Cl P w K mg base 0 x sp := by
  obtain ⟨f, fd, F, m, b⟩ := D.ex
  exact ⟨f, fd, ps, ⟨fun vs H Q E h => absurd h (no vs H Q E), fun A outer s H args us vs Q E _ _ _ _ h => absurd h (no vs H Q E)⟩, m, F.kp, b⟩
theorem Cl.mono {j k : Nat} {x : Str} {sp : Sp} (c : Cl P w K mg base j x sp) (h : j ≤ k) : Cl P w K mg base k x sp := by
  obtain ⟨f, fd, ps, F, m, kp, b⟩ := c.ex
  exact ⟨f, fd, ps, F.mono h, m, kp, b⟩
end
section
variable {X : Cx}
theorem pe_k {k j : Nat} {x : Str} {sp : Sp} {p pos : Pos} {e : Expr} {es : List Expr} {t : TA} (c : Cl X.prog X.w X.K X.mg X.base k x sp) (hr : Room j X.A) (hk : k ≤ j) (hg : Gl X x) (ha : PA X (e :: es) t)
    (hdb : (x == ("__debug__" : Str)) = false := by decide) (he : starEach (e :: es) X.env = (false, eval e X.env) :: starEach es X.env := by rfl) (hpl : (backTo pos (starEach es X.env)).any (·.1) = false := by rfl) : PE X (.Call (.Name x p) (e :: es) [] pos) (tCall sp [] E0 t) := by
  obtain ⟨f, fd, ps, F, m, kp, b⟩ := c.ex
  exact pe_call F (hr.mono hk) hg m kp b .nil pass0 ha hdb he hpl
end

def rLenK (K : PySem.W.Frag) : List V → Hp → VK → Prop := fun xs H Q => ∃ p ys, xs = [.ref p] ∧ (SqL K H p ys ∨ SqT K H p ys) ∧ Q (.int ys.length) H
def rListK (K : PySem.W.Frag) : List V → Hp → VK → Prop := fun xs H Q => ∃ p ys, xs = [.ref p] ∧ (SqL K H p ys ∨ SqT K H p ys) ∧ ∀ l, H l = none → Q (.ref l) (upd H l (.lst ys))
def tTru (K : PySem.W.Frag) (ta : TE) : TT := fun σ H Q => ta σ H fun x H' => ∃ k, TruV K x H' k ∧ Q k H'
theorem pt_truthK {X : Cx} {a : Expr} {ta : TE} {K : PySem.W.Frag} (ha : PE X a ta) (he : ∀ whole, isTrue a X.env whole = (do let v ← whole; standAt a.pos; holding [v] (truthy v))) (hK : X.K = K := by rfl) :
    PT X a (tTru K ta) := by
  subst hK
  exact pt_truth ha he
theorem pi_listK {X : Cx} {K : PySem.W.Frag} {tg e : Expr} {te : TE} (he : PE X e te) (hK : X.K = K := by rfl) : PI X tg e (iList K te) := by
  subst hK
  exact pi_list he
theorem pi_tupK {X : Cx} {K : PySem.W.Frag} {tg e : Expr} {te : TE} (he : PE X e te) (hK : X.K = K := by rfl) : PI X tg e (iTup K te) := by
  subst hK
  exact pi_tup he
/-! ### a cut behind a statement -/
def tCutO (t u : TS) : TS := fun D σ H => ∃ Mid : L2.St → Hp → Prop, t { D with nx := Mid } σ H ∧ ∀ σ' H', Mid σ' H' → u D σ' H'
theorem pss_cutO {X : Cx} {st : Stmt} {rest : List Stmt} {t u : TS} (h1 : PS X st t) (h2 : PSs X rest u) : PSs X (st :: rest) (tCutO t u) := by
  refine ⟨fun pins s σ H D I h => ?_⟩
  obtain ⟨Mid, q1, q2⟩ := h
  refine wpAny_execs_cons (thn (h1.run pins s σ H { D with nx := Mid } I q1) fun f s1 q => ?_)
  cases f with
  | next =>
    obtain ⟨σ', H', I', q⟩ := q
    exact h2.run pins s1 σ' H' D I' (q2 σ' H' q)
  | ret v => exact q
  | brk => exact q
  | cont => exact q

/-! ### texts, cuts, names -/
abbrev S (l : List Nat) : Str := SX.S l
theorem S_tl (x : Str) : S x.cps.toList = x := SX.S_tl x
theorem S_cps (l : List Nat) : (S l).cps.toList = l := rfl
theorem S_inj {a b : List Nat} (h : S a = S b) : a = b := SX.S_inj h
theorem S_len (a : List Nat) : (S a).length = a.length := SX.S_len a
theorem S_cat (a b : List Nat) : S a ++ S b = S (a ++ b) := SX.S_cat a b
theorem joinL_signs : ∀ cs : List Nat, TL.joinL [] (cs.map fun c => [c]) = cs
  | [] => rfl
  | [_] => rfl
  | c :: d :: r => by
    show [c] ++ ([] ++ TL.joinL [] ((d :: r).map fun c => [c])) = c :: d :: r
    rw [joinL_signs (d :: r)]
    rfl
theorem join_signs (cs : List Nat) : Txt.join ("" : Str) (cs.map fun c => S [c]) = S cs := by
  have h := SX.join_S [] (cs.map fun c => [c])
  rw [List.map_map, joinL_signs] at h
  exact h
theorem sum_ones (cs : List Nat) : ((cs.map fun c => S [c]).map (·.length)).sum = cs.length := by
  rw [List.map_map]
  induction cs with
  | nil => rfl
  | cons c r ih =>
    rw [List.map_cons, List.sum_cons, ih, List.length_cons, Nat.add_comm]
    rfl
theorem cut_nat (xs : List V) (a b : Nat) : cutV xs (some (a : Int)) (some (b : Int)) = (xs.drop a).take (b - a) := by
  unfold cutV
  rw [HT.sIx_nat, HT.sIx_nat]
  by_cases h : a ≤ xs.length
  · rw [Nat.min_eq_left h]
    by_cases g : b ≤ xs.length
    · rw [Nat.min_eq_left g]
    · rw [Nat.min_eq_right (by omega), List.take_of_length_le (by rw [List.length_drop]; omega), List.take_of_length_le (by rw [List.length_drop]; omega)]
  · rw [Nat.min_eq_right (show xs.length ≤ a by omega), List.drop_of_length_le (Nat.le_refl _), List.drop_of_length_le (show xs.length ≤ a by omega), List.take_nil, List.take_nil]
theorem cut_from (xs : List V) (a : Nat) : cutV xs (some (a : Int)) none = xs.drop a := by
  unfold cutV
  rw [HT.sIx_nat, HT.sIx_none]
  by_cases h : a ≤ xs.length
  · rw [Nat.min_eq_left h, List.take_of_length_le (by rw [List.length_drop]; exact Nat.le_refl _)]
  · rw [Nat.min_eq_right (show xs.length ≤ a by omega), List.drop_of_length_le (Nat.le_refl _), List.drop_of_length_le (show xs.length ≤ a by omega), List.take_nil]
theorem cut_to (xs : List V) (b : Nat) : cutV xs none (some (b : Int)) = xs.take b := by
  unfold cutV
  rw [HT.sIx_nat, HT.sIx_none, List.drop_zero, Nat.sub_zero]
  by_cases g : b ≤ xs.length
  · rw [Nat.min_eq_left g]
  · rw [Nat.min_eq_right (by omega), List.take_of_length_le (Nat.le_refl _), List.take_of_length_le (by omega)]
/-- a name of a letter, as its signs -/
structure Nm (l : List Nat) : Prop where
  lo : 1 ≤ l.length
  hi : l.length ≤ 8
  abc : ∀ c ∈ l, 97 ≤ c ∧ c ≤ 122
  free : S l ≠ "and" ∧ S l ≠ "or" ∧ S l ≠ "then" ∧ S l ≠ "never"
theorem abc_at : ∀ j : Nat, j < 26 → ((("abcdefghijklmnopqrstuvwxyz" : Str)).cps.toList)[j]? = some (97 + j) := by
  decide +kernel

theorem inV_str (x : Str) (ys : List Str) : inV (.str x) (ys.map V.str) = ys.any (· == x) := by
  unfold inV
  rw [List.any_map]
  rfl
theorem kept_cases {l : List Nat} (h : inV (.str (S l)) [.str "and", .str "or", .str "then", .str "never"] = true) : l = [97, 110, 100] ∨ l = [111, 114] ∨ l = [116, 104, 101, 110] ∨ l = [110, 101, 118, 101, 114] := by
  have h' : (["and", "or", "then", "never"] : List Str).any (· == S l) = true := by rw [← inV_str]; exact h
  rw [List.any_eq_true] at h'
  obtain ⟨x, hx, e⟩ := h'
  have e' : x = S l := eq_of_beq e
  have e2 : x.cps.toList = l := by rw [e']
  rw [← e2]
  rcases List.mem_cons.mp hx with rfl | hx
  · exact .inl (by decide +kernel)
  rcases List.mem_cons.mp hx with rfl | hx
  · exact .inr (.inl (by decide +kernel))
  rcases List.mem_cons.mp hx with rfl | hx
  · exact .inr (.inr (.inl (by decide +kernel)))
  rcases List.mem_cons.mp hx with rfl | hx
  · exact .inr (.inr (.inr (by decide +kernel)))
  · cases hx
theorem kept_not {l : List Nat} (h : ¬ inV (.str (S l)) [.str "and", .str "or", .str "then", .str "never"] = true) : S l ≠ "and" ∧ S l ≠ "or" ∧ S l ≠ "then" ∧ S l ≠ "never" := by
  have h' : ¬ (["and", "or", "then", "never"] : List Str).any (· == S l) = true := by rw [← inV_str]; exact h
  rw [List.any_eq_true] at h'
  have n : ∀ x ∈ (["and", "or", "then", "never"] : List Str), S l ≠ x := fun x hx e => h' ⟨x, hx, by rw [e]; exact beq_self_eq_true x⟩
  exact ⟨n _ (by simp), n _ (by simp), n _ (by simp), n _ (by simp)⟩
theorem nm_no {l : List Nat} (h1 : 1 ≤ l.length) (h2 : l.length ≤ 8) (h3 : ∀ c ∈ l, 97 ≤ c ∧ c ≤ 122) (h : ¬ inV (.str (S l)) [.str "and", .str "or", .str "then", .str "never"] = true) : Nm l := ⟨h1, h2, h3, kept_not h⟩
theorem nm_x {l : List Nat} (h : inV (.str (S l)) [.str "and", .str "or", .str "then", .str "never"] = true) : Nm (l ++ [120]) := by
  rcases kept_cases h with rfl | rfl | rfl | rfl <;> exact ⟨by decide, by decide, by decide, by decide +kernel⟩

/-! ### tests and values that change nothing -/
section
variable {σ : L2.St} {H : Hp} {ta tb : TE} {t u : TT} {x y z v : V} {a b : Bool} {K : PySem.W.Frag}
def An (t : TT) (σ : L2.St) (H : Hp) (b : Bool) : Prop := ∀ Q : Bool → Hp → Prop, Q b H → t σ H Q
def Vl (te : TE) (σ : L2.St) (H : Hp) (v : V) : Prop := ∀ Q : VK, Q v H → te σ H Q
theorem vl_var {i : Nat} (h : σ[i]? = some (some v)) : Vl (tVar i) σ H v := fun _ q => ⟨v, h, q⟩
theorem vl_c : Vl (tC v) σ H v := fun _ q => q
theorem an_or (h1 : An t σ H a) (h2 : An u σ H b) : An (tOr t u) σ H (a || b) := fun Q q => h1 _ (by
  cases a with
  | true => exact iteT q
  | false => exact iteF (h2 Q q))
theorem an_and (h1 : An t σ H a) (h2 : An u σ H b) : An (tAnd t u) σ H (a && b) := fun Q q => h1 _ (by
  cases a with
  | true => exact iteT (h2 Q q)
  | false => exact iteF q)
theorem an_not (h : An t σ H a) : An (tNot t) σ H (!a) := fun Q q => h _ q
theorem an_val (h : Vl ta σ H (.bl b)) : An (tB ta) σ H b := fun Q q => h _ ⟨b, rfl, q⟩
theorem an_test (h : Vl ta σ H (.bl b)) : An (tTest ta) σ H b := fun Q q => h _ ⟨b, rfl, q⟩
theorem vl_eq (h1 : Vl ta σ H x) (h2 : Vl tb σ H y) (hs : scal x y = true) : Vl (tOp rEq ta tb) σ H (.bl (decide (x = y))) := fun Q q => h1 _ (h2 _ ⟨hs, q⟩)
theorem vl_ne (h1 : Vl ta σ H x) (h2 : Vl tb σ H y) (hs : scal x y = true) : Vl (tOp rNe ta tb) σ H (.bl (!decide (x = y))) := fun Q q => h1 _ (h2 _ ⟨hs, q⟩)
theorem vl_I0 {g : Int → Int → V} {i j : Int} (h1 : Vl ta σ H (.int i)) (h2 : Vl tb σ H (.int j)) : Vl (tOp (rI0 g) ta tb) σ H (g i j) := fun Q q => h1 _ (h2 _ ⟨i, j, rfl, rfl, q⟩)
theorem vl_I {C : Int → Int → Prop} {g : Int → Int → V} {i j : Int} (h1 : Vl ta σ H (.int i)) (h2 : Vl tb σ H (.int j)) (hc : C i j) : Vl (tOp (rI C g) ta tb) σ H (g i j) := fun Q q => h1 _ (h2 _ ⟨i, j, rfl, rfl, hc, q⟩)
theorem vl_orV (h1 : Vl ta σ H (.bl a)) (h2 : Vl tb σ H (.bl b)) : Vl (tOrV ta tb) σ H (.bl (a || b)) := fun Q q => h1 _ ⟨a, rfl, (by
  cases a with
  | true => exact iteT q
  | false => exact iteF (h2 Q q))⟩
theorem vl_andV (h1 : Vl ta σ H (.bl a)) (h2 : Vl tb σ H (.bl b)) : Vl (tAndV ta tb) σ H (.bl (a && b)) := fun Q q => h1 _ ⟨a, rfl, (by
  cases a with
  | true => exact iteT (h2 Q q)
  | false => exact iteF q)⟩
theorem vl_notV (h1 : Vl ta σ H (.bl a)) : Vl (tNotV ta) σ H (.bl (!a)) := fun Q q => h1 _ ⟨a, rfl, q⟩
theorem vl_ixT {p : Addr} {xs : List V} {i : Int} (h1 : Vl ta σ H (.ref p)) (h2 : Vl tb σ H (.int i)) (hs : SqT K H p xs) (ha : atI xs i = some v) : Vl (tOp (rIxT K) ta tb) σ H v := fun Q q => h1 _ (h2 _ ⟨p, xs, i, v, rfl, rfl, hs, ha, q⟩)
theorem vl_ixL {p : Addr} {xs : List V} {i : Int} (h1 : Vl ta σ H (.ref p)) (h2 : Vl tb σ H (.int i)) (hs : SqL K H p xs) (ha : atI xs i = some v) : Vl (tOp (rIxL K) ta tb) σ H v := fun Q q => h1 _ (h2 _ ⟨p, xs, i, v, rfl, rfl, hs, ha, q⟩)
theorem vl_lenT {p : Addr} {xs : List V} (h1 : Vl ta σ H (.ref p)) (hs : SqT K H p xs) : Vl (tCB (rLenK K) (tCons ta tNil)) σ H (.int xs.length) := fun Q q => h1 _ ⟨p, xs, rfl, .inr hs, q⟩
theorem vl_lenL {p : Addr} {xs : List V} (h1 : Vl ta σ H (.ref p)) (hs : SqL K H p xs) : Vl (tCB (rLenK K) (tCons ta tNil)) σ H (.int xs.length) := fun Q q => h1 _ ⟨p, xs, rfl, .inl hs, q⟩
end
theorem j_eq (w u : J) : decide (V.str w.s = V.str u.s) = decide (w = u) := by
  cases w <;> cases u <;> decide

/-! ### statements as data -/
def rEqE (K : PySem.W.Frag) : R2 := fun x y H Q => ∃ d e, Dp K H x d ∧ Dp K H y e ∧ d.canLay0 = true ∧ e.canLay0 = true ∧ min d.depth e.depth ≤ 64 ∧ Q (.bl (PyData.eqv d e)) H
def rNeE (K : PySem.W.Frag) : R2 := fun x y H Q => ∃ d e, Dp K H x d ∧ Dp K H y e ∧ d.canLay0 = true ∧ e.canLay0 = true ∧ min d.depth e.depth ≤ 64 ∧ Q (.bl (!PyData.eqv d e)) H
theorem op_eqE {X : Cx} (hu : X.A.units + 64 < cLine) : OpR X (compareOp .Eq) (rEqE X.K) := by
  intro pins s σ H x y v u Q I rx ry h
  obtain ⟨d, e, hd, he, sd, se, hm, q⟩ := h
  obtain ⟨as, r1⟩ := Dp.reads I d x v hd rx
  obtain ⟨bs, r2⟩ := Dp.reads I e y u he ry
  exact SeqAt.compareEq_reads r1 r2 sd se (by omega) ⟨.bl _, H, I, rfl, q⟩
theorem op_neE {X : Cx} (hu : X.A.units + 64 < cLine) : OpR X (compareOp .NotEq) (rNeE X.K) := by
  intro pins s σ H x y v u Q I rx ry h
  obtain ⟨d, e, hd, he, sd, se, hm, q⟩ := h
  obtain ⟨as, r1⟩ := Dp.reads I d x v hd rx
  obtain ⟨bs, r2⟩ := Dp.reads I e y u he ry
  exact SeqAt.compareNe_reads r1 r2 sd se (by omega) ⟨.bl _, H, I, rfl, q⟩
def Ch (l : List Nat) : Prop := ∀ c ∈ l, c < 1114112
theorem Nm.ch {l : List Nat} (h : Nm l) : Ch l := fun c hc => by
  have := h.abc c hc
  omega
theorem Ch.ok {l : List Nat} (h : Ch l) : PyData.strOk (S l) = true := by
  unfold PyData.strOk
  rw [Array.all_eq_true']
  intro c hc
  have hc' : c ∈ l := by
    have : c ∈ (S l).cps.toList := Array.mem_toList_iff.mpr hc
    exact this
  exact decide_eq_true (h c hc')
def Sm.data : Sm → PyData
  | .lt n => .tuple [.str "letter", .str (S n)]
  | .nv => .tuple [.str "never"]
  | .bin w a b => .tuple [.str w.s, a.data, b.data]
theorem IsSm.dp {K : PySem.W.Frag} {H : Hp} {v : V} {s : Sm} (h : IsSm K H v s) : Dp K H v s.data := by
  induction h with
  | lt h => exact .tup h (.cons (.str _) (.cons (.str _) .nil))
  | nv h => exact .tup h (.cons (.str _) .nil)
  | bin h _ _ i1 i2 => exact .tup h (.cons (.str _) (.cons i1 (.cons i2 .nil)))
theorem J.ok (w : J) : PyData.strOk w.s = true := by cases w <;> decide +kernel
theorem Sm.lay : ∀ {s : Sm}, s.In Ch → s.data.canLay0 = true
  | .lt n, h => by
    have h' : Ch n := h
    show (PyData.tuple [.str "letter", .str (S n)]).canLay0 = true
    simp only [PyData.canLay0, PyData.canLayAll0, h'.ok, Bool.and_true]
    decide +kernel
  | .nv, _ => by decide +kernel
  | .bin w a b, h => by
    show (PyData.tuple [.str w.s, a.data, b.data]).canLay0 = true
    simp only [PyData.canLay0, PyData.canLayAll0, Sm.lay (s := a) h.1, Sm.lay (s := b) h.2, w.ok, Bool.and_true]
theorem Sm.depth_le : ∀ s : Sm, s.data.depth ≤ s.joints + 1
  | .lt n => by
    show (PyData.tuple [.str "letter", .str (S n)]).depth ≤ 0 + 1
    simp [PyData.depth, PyData.depthAll]
  | .nv => by decide +kernel
  | .bin w a b => by
    have h1 := a.depth_le
    have h2 := b.depth_le
    show (PyData.tuple [.str w.s, a.data, b.data]).depth ≤ a.joints + b.joints + 1 + 1
    simp only [PyData.depth, PyData.depthAll]
    omega
theorem str_beq (a b : List Nat) : (S a == S b) = decide (a = b) := SX.S_beq_eq
theorem eqv_s (a b : Str) : PyData.eqv (.str a) (.str b) = (a == b) := by rw [PyData.eqv]
theorem eqv_t1 (a b : PyData) : PyData.eqv (.tuple [a]) (.tuple [b]) = PyData.eqv a b := by
  rw [PyData.eqv, PyData.eqvAll, PyData.eqvAll, Bool.and_true]
theorem eqv_t2 (a b c d : PyData) : PyData.eqv (.tuple [a, b]) (.tuple [c, d]) = (PyData.eqv a c && PyData.eqv b d) := by
  rw [PyData.eqv, PyData.eqvAll, PyData.eqvAll, PyData.eqvAll, Bool.and_true]
theorem eqv_t3 (a b c d e f : PyData) : PyData.eqv (.tuple [a, b, c]) (.tuple [d, e, f]) = (PyData.eqv a d && (PyData.eqv b e && PyData.eqv c f)) := by
  rw [PyData.eqv, PyData.eqvAll, PyData.eqvAll, PyData.eqvAll, PyData.eqvAll, Bool.and_true]
theorem eqv_tn {xs ys : List PyData} (h : xs.length ≠ ys.length) : PyData.eqv (.tuple xs) (.tuple ys) = false := by
  rw [PyData.eqv]
  exact SeqAt.eqvAll_other_length h
theorem eqv_ln {xs ys : List PyData} (h : xs.length ≠ ys.length) : PyData.eqv (.list xs) (.list ys) = false := by
  rw [PyData.eqv]
  exact SeqAt.eqvAll_other_length h
theorem eqv_nil : PyData.eqv (.list []) (.list []) = true := by
  rw [PyData.eqv, PyData.eqvAll]
theorem Sm.eqv (s : Sm) : ∀ t : Sm, PyData.eqv s.data t.data = decide (s = t) := by
  induction s with
  | lt n =>
    intro t
    cases t with
    | lt m =>
      show PyData.eqv (.tuple [.str "letter", .str (S n)]) (.tuple [.str "letter", .str (S m)]) = _
      rw [eqv_t2, eqv_s, eqv_s, beq_self_eq_true, Bool.true_and, str_beq]
      rw [decide_eq_decide]
      exact ⟨fun h => by rw [h], fun h => by injection h⟩
    | nv =>
      show PyData.eqv (.tuple [.str "letter", .str (S n)]) (.tuple [.str "never"]) = _
      rw [decide_eq_false (fun h => nomatch h)]
      exact eqv_tn (by simp)
    | bin w a b =>
      show PyData.eqv (.tuple [.str "letter", .str (S n)]) (.tuple [.str w.s, a.data, b.data]) = _
      rw [decide_eq_false (fun h => nomatch h)]
      exact eqv_tn (by simp)
  | nv =>
    intro t
    cases t with
    | lt n =>
      show PyData.eqv (.tuple [.str "never"]) (.tuple [.str "letter", .str (S n)]) = _
      rw [decide_eq_false (fun h => nomatch h)]
      exact eqv_tn (by simp)
    | nv =>
      rw [decide_eq_true rfl]
      show PyData.eqv (.tuple [.str "never"]) (.tuple [.str "never"]) = _
      rw [eqv_t1, eqv_s, beq_self_eq_true]
    | bin w a b =>
      show PyData.eqv (.tuple [.str "never"]) (.tuple [.str w.s, a.data, b.data]) = _
      rw [decide_eq_false (fun h => nomatch h)]
      exact eqv_tn (by simp)
  | bin w a b iha ihb =>
    intro t
    cases t with
    | lt n =>
      show PyData.eqv (.tuple [.str w.s, a.data, b.data]) (.tuple [.str "letter", .str (S n)]) = _
      rw [decide_eq_false (fun h => nomatch h)]
      exact eqv_tn (by simp)
    | nv =>
      show PyData.eqv (.tuple [.str w.s, a.data, b.data]) (.tuple [.str "never"]) = _
      rw [decide_eq_false (fun h => nomatch h)]
      exact eqv_tn (by simp)
    | bin u c d =>
      show PyData.eqv (.tuple [.str w.s, a.data, b.data]) (.tuple [.str u.s, c.data, d.data]) = _
      rw [eqv_t3, eqv_s, iha c, ihb d]
      have hw : (w.s == u.s) = decide (w = u) := by cases w <;> cases u <;> decide +kernel
      rw [hw]
      by_cases e : w = u ∧ a = c ∧ b = d
      · obtain ⟨rfl, rfl, rfl⟩ := e
        simp
      · rw [decide_eq_false (show ¬ (Sm.bin w a b = Sm.bin u c d) from fun h => e (by injection h with h1 h2 h3; exact ⟨h1, h2, h3⟩))]
        by_cases h1 : w = u
        · by_cases h2 : a = c
          · by_cases h3 : b = d
            · exact absurd ⟨h1, h2, h3⟩ e
            · simp [h3]
          · simp [h2]
        · simp [h1]

mutual
theorem Dp.sm {K : PySem.W.Frag} {H H' : Hp} (e : Same H H') : ∀ {v : V} {d : PyData}, Dp K H v d → Dp K H' v d
  | _, _, .non => .non
  | _, _, .bl b => .bl b
  | _, _, .int i => .int i
  | _, _, .str x => .str x
  | _, _, .lst h a => .lst (e.seq h) (DpAll.sm e a)
  | _, _, .tup h a => .tup (seqT e h) (DpAll.sm e a)
theorem DpAll.sm {K : PySem.W.Frag} {H H' : Hp} (e : Same H H') : ∀ {vs : List V} {ds : List PyData}, DpAll K H vs ds → DpAll K H' vs ds
  | _, _, .nil => .nil
  | _, _, .cons h a => .cons (Dp.sm e h) (DpAll.sm e a)
end
theorem dpAll_of {α : Type} {K : PySem.W.Frag} {H : Hp} {R : V → α → Prop} {f : α → PyData} (h : ∀ v p, R v p → Dp K H v (f p)) : ∀ {ws : List V} {st : List α}, Paired R ws st → DpAll K H ws (st.map f)
  | _, _, .nil => .nil
  | _, _, .cons r t => .cons (h _ _ r) (dpAll_of h t)
theorem dpAll_app {K : PySem.W.Frag} {H : Hp} : ∀ {xs ys : List V} {ds es : List PyData}, DpAll K H xs ds → DpAll K H ys es → DpAll K H (xs ++ ys) (ds ++ es)
  | _, _, _, _, .nil, s => s
  | _, _, _, _, .cons r t, s => .cons r (dpAll_app t s)
theorem dpAll_rev {K : PySem.W.Frag} {H : Hp} : ∀ {xs : List V} {ds : List PyData}, DpAll K H xs ds → DpAll K H xs.reverse ds.reverse
  | _, _, .nil => .nil
  | _, _, .cons r t => by
    rw [List.reverse_cons, List.reverse_cons]
    exact dpAll_app (dpAll_rev t) (.cons r .nil)
theorem lay_all : ∀ {ds : List PyData}, (∀ d ∈ ds, d.canLay0 = true) → PyData.canLayAll0 ds = true
  | [], _ => by rw [PyData.canLayAll0]
  | d :: r, h => by
    rw [PyData.canLayAll0, h d (List.mem_cons_self ..), lay_all (ds := r) fun x hx => h x (List.mem_cons_of_mem _ hx)]
    rfl
theorem lay_lst {ds : List PyData} (h : ∀ d ∈ ds, d.canLay0 = true) : (PyData.list ds).canLay0 = true := by
  rw [PyData.canLay0]
  exact lay_all h
theorem lay_tup {ds : List PyData} (h : ∀ d ∈ ds, d.canLay0 = true) : (PyData.tuple ds).canLay0 = true := by
  rw [PyData.canLay0]
  exact lay_all h
theorem dpAll_nil {K : PySem.W.Frag} {H : Hp} {xs : List V} {ds : List PyData} (h : DpAll K H xs ds) : PyData.eqv (.list ds) (.list []) = xs.isEmpty := by
  cases h with
  | nil => exact eqv_nil
  | cons _ _ => exact eqv_ln (by simp)
theorem depth_nil (d : PyData) : min d.depth (PyData.list []).depth ≤ 64 := Nat.le_trans (Nat.min_le_right _ _) (by decide +kernel)
/-- xs != [] -/
theorem ne_nil {K : PySem.W.Frag} {σ : L2.St} {H : Hp} {ta : TE} {k : Addr} {xs : List V} {ds : List PyData} {Q : VK} (h1 : Vl ta σ H (.ref k)) (hs : SqL K H k xs) (hd : DpAll K H xs ds) (hl : ∀ d ∈ ds, d.canLay0 = true)
    (q : ∀ p, H p = none → Q (.bl (!xs.isEmpty)) (upd H p (.lst []))) : tOp (rNeE K) ta (tLst tNil) σ H Q := h1 _ ⟨sz0, fun p np => ⟨.list ds, .list [], .lst ((same_new np).seq hs) (DpAll.sm (same_new np) hd), .lst (.inl (.inl upd_same)) .nil, lay_lst hl, by decide +kernel, depth_nil _, by
  rw [dpAll_nil hd]
  exact q p np⟩⟩
/-- xs == [] -/
theorem eq_nil {K : PySem.W.Frag} {σ : L2.St} {H : Hp} {ta : TE} {k : Addr} {xs : List V} {ds : List PyData} {Q : VK} (h1 : Vl ta σ H (.ref k)) (hs : SqL K H k xs) (hd : DpAll K H xs ds) (hl : ∀ d ∈ ds, d.canLay0 = true)
    (q : ∀ p, H p = none → Q (.bl xs.isEmpty) (upd H p (.lst []))) : tOp (rEqE K) ta (tLst tNil) σ H Q := h1 _ ⟨sz0, fun p np => ⟨.list ds, .list [], .lst ((same_new np).seq hs) (DpAll.sm (same_new np) hd), .lst (.inl (.inl upd_same)) .nil, lay_lst hl, by decide +kernel, depth_nil _, by
  rw [dpAll_nil hd]
  exact q p np⟩⟩
theorem dpAll_ints {K : PySem.W.Frag} {H : Hp} : ∀ ns : List Int, DpAll K H (ns.map V.int) (ns.map PyData.int)
  | [] => .nil
  | n :: r => .cons (.int n) (dpAll_ints r)
theorem lay_ints (ns : List Int) : ∀ d ∈ ns.map PyData.int, d.canLay0 = true := fun d hd => by
  obtain ⟨n, _, rfl⟩ := List.mem_map.mp hd
  rfl
/-- a statement and a truth, as a tuple -/
def WP (K : PySem.W.Frag) (H H3 : Hp) (v : V) (p : Sm × Bool) : Prop := ∃ a x, v = .ref a ∧ SqT K H3 a [x, .bl p.2] ∧ IsSm K H x p.1
theorem WP.tk {K : PySem.W.Frag} {H H3 H4 : Hp} {v : V} {p : Sm × Bool} (k : TK K H3 H4) (h : WP K H H3 v p) : WP K H H4 v p := by
  obtain ⟨a, x, e, hT, hs⟩ := h
  exact ⟨a, x, e, k _ _ hT, hs⟩
def wpd (p : Sm × Bool) : PyData := .tuple [p.1.data, .bool p.2]
theorem WP.dp {K : PySem.W.Frag} {H H3 : Hp} (e : Same H H3) {v : V} {p : Sm × Bool} (h : WP K H H3 v p) : Dp K H3 v (wpd p) := by
  obtain ⟨a, x, rfl, hT, hs⟩ := h
  exact .tup hT (.cons (hs.same e).dp (.cons (.bl _) .nil))
theorem wpd_lay {p : Sm × Bool} (h : p.1.In Ch) : (wpd p).canLay0 = true := lay_tup fun d hd => by
  rcases List.mem_cons.mp hd with rfl | hd
  · exact Sm.lay h
  · rw [List.mem_singleton.mp hd]
    rfl
def szs (st : List (Sm × Bool)) : Nat := (st.map fun p => p.1.size).sum
def kns (st : List (Sm × Bool)) : Nat := (st.map fun p => p.1.kn p.2).sum
def jns (st : List (Sm × Bool)) : Nat := (st.map fun p => p.1.joints).sum
theorem szs_cons (p : Sm × Bool) (st : List (Sm × Bool)) : szs (p :: st) = p.1.size + szs st := rfl
theorem kns_cons (p : Sm × Bool) (st : List (Sm × Bool)) : kns (p :: st) = p.1.kn p.2 + kns st := rfl
theorem jns_cons (p : Sm × Bool) (st : List (Sm × Bool)) : jns (p :: st) = p.1.joints + jns st := rfl
theorem szs_len : ∀ st : List (Sm × Bool), st.length ≤ szs st
  | [] => Nat.le_refl _
  | p :: r => by
    have h1 := szs_len r
    have h2 := p.1.size_pos
    rw [szs_cons, List.length_cons]
    omega
end Ob

namespace Ob
open PySem PySem.Spec PyProof.Rows L2
def topS (i : Nat) : Stmt := PySem.Challenge.pw_onlybuilt_k01_joints_and_knots.main.body.getD i (.Pass ⟨0, 0, 0, 0⟩)
abbrev s_standing : Stmt := topS 1
abbrev sc_standingN : List Str := ["a", "found", "ahead", "b"]
theorem sc_standing : FnScope sc_standingN ["a"] (defScope s_standing) := ⟨rfl, rfl, rfl, by decide +kernel, rfl, by decide +kernel, by decide +kernel⟩
abbrev s_joints : Stmt := topS 2
abbrev sc_jointsN : List Str := ["a", "b"]
theorem sc_joints : FnScope sc_jointsN ["a"] (defScope s_joints) := ⟨rfl, rfl, rfl, by decide +kernel, rfl, by decide +kernel, by decide +kernel⟩
abbrev s_knots : Stmt := topS 3
abbrev sc_knotsN : List Str := ["a", "many", "ahead", "b", "in_left", "word", "left", "right"]
theorem sc_knots : FnScope sc_knotsN ["a"] (defScope s_knots) := ⟨rfl, rfl, rfl, by decide +kernel, rfl, by decide +kernel, by decide +kernel⟩
abbrev s_law_cell : Stmt := topS 5
abbrev sc_law_cellN : List Str := ["_law_script", "_law_k"]
theorem sc_law_cell : FnScope sc_law_cellN ["_law_script", "_law_k"] (defScope s_law_cell) := ⟨rfl, rfl, rfl, by decide +kernel, rfl, by decide +kernel, by decide +kernel⟩
abbrev s_law_row : Stmt := topS 6
abbrev sc_law_rowN : List Str := ["_law_cell_here", "_law_many", "_law_row_here", "_law_rest", "_law_number", "_law_k"]
theorem sc_law_row : FnScope sc_law_rowN ["_law_cell_here", "_law_many"] (defScope s_law_row) := ⟨rfl, rfl, rfl, by decide +kernel, rfl, by decide +kernel, by decide +kernel⟩
abbrev s_law_names : Stmt := topS 7
abbrev sc_law_namesN : List Str := ["_law_cell_here", "_law_row_here", "_law_names_here", "_law_k", "_law_some", "_law_word", "_law_one"]
theorem sc_law_names : FnScope sc_law_namesN ["_law_cell_here"] (defScope s_law_names) := ⟨rfl, rfl, rfl, by decide +kernel, rfl, by decide +kernel, by decide +kernel⟩
abbrev s_law_grown : Stmt := topS 8
abbrev sc_law_grownN : List Str := ["_law_row_here", "_law_names_here", "_law_at", "_law_budget", "_law_number", "_law_less", "_law_left", "_law_right"]
theorem sc_law_grown : FnScope sc_law_grownN ["_law_row_here", "_law_names_here", "_law_at", "_law_budget"] (defScope s_law_grown) := ⟨rfl, rfl, rfl, by decide +kernel, rfl, by decide +kernel, by decide +kernel⟩
abbrev s_law_statement : Stmt := topS 9
abbrev sc_law_statementN : List Str := ["_law_cell_here", "_law_names_here", "_law_most", "_law_row_here"]
theorem sc_law_statement : FnScope sc_law_statementN ["_law_cell_here", "_law_names_here", "_law_most"] (defScope s_law_statement) := ⟨rfl, rfl, rfl, by decide +kernel, rfl, by decide +kernel, by decide +kernel⟩
abbrev s_law_whole : Stmt := topS 10
abbrev sc_law_wholeN : List Str := ["_law_found"]
theorem sc_law_whole : FnScope sc_law_wholeN ["_law_found"] (defScope s_law_whole) := ⟨rfl, rfl, rfl, by decide +kernel, rfl, by decide +kernel, by decide +kernel⟩
abbrev s_law_counted : Stmt := topS 11
abbrev sc_law_countedN : List Str := ["_law_a", "_law_many", "_law_tied", "_law_row_here", "_law_one", "_law_inner"]
theorem sc_law_counted : FnScope sc_law_countedN ["_law_a"] (defScope s_law_counted) := ⟨rfl, rfl, rfl, by decide +kernel, rfl, by decide +kernel, by decide +kernel⟩
abbrev s_law : Stmt := topS 12
abbrev sc_lawN : List Str := ["_law_script", "_law_names_here", "_law_cells", "_law_cell_here", "_law_a", "_law_many", "_law_tied"]
theorem sc_law : FnScope sc_lawN ["_law_script"] (defScope s_law) := ⟨rfl, rfl, rfl, by decide +kernel, rfl, by decide +kernel, by decide +kernel⟩
structure Txt (w : World) (K : PySem.W.Frag) (mg : Str → Option Value) : Prop where
  n_bool : mg "bool" = none
  n_int : mg "int" = none
  n_isinstance : mg "isinstance" = none
  n_len : mg "len" = none
  n_range : mg "range" = none
  d_standing : Df K mg "_standing" s_standing ["a"]
  d_joints : Df K mg "joints" s_joints ["a"]
  d_knots : Df K mg "knots" s_knots ["a"]
  d_law_cell : Df K mg "_law_cell" s_law_cell ["_law_script", "_law_k"]
  d_law_row : Df K mg "_law_row" s_law_row ["_law_cell_here", "_law_many"]
  d_law_names : Df K mg "_law_names" s_law_names ["_law_cell_here"]
  d_law_grown : Df K mg "_law_grown" s_law_grown ["_law_row_here", "_law_names_here", "_law_at", "_law_budget"]
  d_law_statement : Df K mg "_law_statement" s_law_statement ["_law_cell_here", "_law_names_here", "_law_most"]
  d_law_whole : Df K mg "_law_whole" s_law_whole ["_law_found"]
  d_law_counted : Df K mg "_law_counted" s_law_counted ["_law_a"]
  d_law : Df K mg "law" s_law ["_law_script"]
section
variable {P : Program}
variable {w : World} {K : PySem.W.Frag} {mg : Str → Option Value} {base : Heap}
/-! ### _standing -/
def sp_standing (K : PySem.W.Frag) : Sp := fun vs H Q _ => ∃ (v : V) (s : Sm), vs = [v] ∧ IsSm K H v s ∧ s.size ≤ 10000 ∧
  ∀ p H' ws, Same H H' → H p = none → H' p = some (.lst ws) → Paired (IsSm K H) ws s.standing → Q (.ref p) H'
theorem ok_standing (T : Txt w K mg) : Cl P w K mg base 1 "_standing" (sp_standing K) := by
  refine T.d_standing.ok sc_standing (fun vs H Q E h => ?_) (fun f cdv A outer s H vs Q E hr h => ?_)
  · obtain ⟨v, s, rfl, _⟩ := h
    rfl
  · obtain ⟨v, a, rfl, hs, hz, q⟩ := h
    refine ⟨_, (pss_cons (ps_set (i := 1) sc_standing.nd rfl (Or.inl rfl) (pe_lst pa_nil))
    (pss_cons (ps_set (i := 2) sc_standing.nd rfl (Or.inl rfl) (pe_lst (pa_cons (pv 0) pa_nil)))
    (pss_cons (ps_while PassesOwn.never (pt_truthK (K := K) (pv 2) (by intro _; rfl))
      (pss_cons (ps_set (i := 3) sc_standing.nd rfl (Or.inl rfl) (pe_bm0 PySem.F.plainAttrs_list PySem.F.slot_list_pop PySem.F.type_list_pop mt_pop (pv 2)))
        (pss_cons (ps_expr (pe_bm PySem.F.plainAttrs_list PySem.F.slot_list_append PySem.F.type_list_append mt_append (pv 1) (pa_cons (pv 3) pa_nil)))
        (pss_one (ps_if (pt_cmpR op_eq (pe_callB (r := rLenK K) call_len_seq rfl T.n_len (by decide +kernel) (pa_cons (pv 3) pa_nil)) pe_int (nomark _))
          (pss_cons (ps_expr (pe_bm PySem.F.plainAttrs_list PySem.F.slot_list_append PySem.F.type_list_append mt_append (pv 2) (pa_cons (pe_ix (r := rIxT K) ix_tup (pv 3) pe_int (fun _ _ => rfl)) pa_nil)))
            (pss_one (ps_expr (pe_bm PySem.F.plainAttrs_list PySem.F.slot_list_append PySem.F.type_list_append mt_append (pv 2) (pa_cons (pe_ix (r := rIxT K) ix_tup (pv 3) pe_int (fun _ _ => rfl)) pa_nil)))))
          pss_nil)))))
    (pss_one (ps_ret (pv 1)))))), ?_⟩
    refine ⟨sz0, fun o no => ⟨_, rfl, sz1, fun k nk => ?_⟩⟩
    have nko : o ≠ k := ne_of_none upd_same nk
    have nk0 : H k = none := (same_new no).free nk
    refine ⟨fun m σ H3 => ∃ (fs ws : List V) (dn st : List Sm) (y : Option V), σ = [some v, some (.ref o), some (.ref k), y] ∧ H3 o = some (.lst fs) ∧ H3 k = some (.lst ws.reverse) ∧ Paired (IsSm K H) fs dn ∧ Paired (IsSm K H) ws st ∧ a.standing = dn ++ st.flatMap Sm.standing ∧ Same H H3 ∧ m = (st.map Sm.size).sum, ⟨_, [], [v], [], [a], none, rfl, ?_, upd_same, .nil, .cons hs .nil, ?_, (same_new no).trans (same_new nk), rfl⟩, ?_⟩
    · rw [upd_ne nko]
      exact upd_same
    · show a.standing = [] ++ (a.standing ++ [])
      rw [List.append_nil]
      rfl
    · rintro m σ H3 ⟨fs, ws, dn, st, y, rfl, ho, hk, pf, pw, ea, sm, rfl⟩
      cases pw with
      | nil =>
        refine ⟨_, rfl, false, .inl ⟨_, SqL.of hk, rfl⟩, ?_⟩
        refine iteF ⟨_, rfl, q o H3 fs sm no ho ?_⟩
        rw [ea]
        show Paired (IsSm K H) fs (dn ++ [])
        rw [List.append_nil]
        exact pf
      | @cons x t ws st hx pw =>
        refine ⟨_, rfl, true, .inl ⟨_, SqL.of hk, emp_rev.symm⟩, ?_⟩
        refine iteT ⟨fun σ' H' => ∃ (fs ws : List V) (dn st' : List Sm) (y : Option V), σ' = [some v, some (.ref o), some (.ref k), y] ∧ H' o = some (.lst fs) ∧ H' k = some (.lst ws.reverse) ∧ Paired (IsSm K H) fs dn ∧ Paired (IsSm K H) ws st' ∧ a.standing = dn ++ st'.flatMap Sm.standing ∧ Same H H' ∧ (st'.map Sm.size).sum < ((t :: st).map Sm.size).sum, fun σ' H' ⟨fs, ws, dn, st', y, e1, e2, e3, e4, e5, e6, e7, e8⟩ => ⟨_, e8, fs, ws, dn, st', y, e1, e2, e3, e4, e5, e6, e7, rfl⟩, ?_⟩
        refine ⟨_, rfl, tyL hk, k, _, x, rfl, rfl, hk, last_rev, ?_⟩
        rw [drop_rev]
        have hlen : fs.length < 10000 := by
          have h1 := pair_len pf
          have h2 := congrArg List.length ea
          rw [a.len_standing, List.length_append, List.flatMap_cons, List.length_append, t.len_standing] at h2
          have h3 := t.size_pos
          omega
        have ho1 : (upd H3 k (.lst ws.reverse)) o = some (.lst fs) := by
          rw [upd_ne nko]
          exact ho
        refine ⟨_, rfl, tyL ho1, _, rfl, o, _, _, rfl, rfl, ho1, small (by omega), ?_⟩
        have sm1 : Same H (upd (upd H3 k (.lst ws.reverse)) o (.lst (fs ++ [x]))) := same_put (same_put sm nk0) no
        have hk1 : (upd (upd H3 k (.lst ws.reverse)) o (.lst (fs ++ [x]))) k = some (.lst ws.reverse) := by
          rw [upd_ne nko.symm]
          exact upd_same
        have ho2 : (upd (upd H3 k (.lst ws.reverse)) o (.lst (fs ++ [x]))) o = some (.lst (fs ++ [x])) := upd_same
        generalize upd (upd H3 k (.lst ws.reverse)) o (.lst (fs ++ [x])) = H4 at sm1 hk1 ho2 ⊢
        have ea' : a.standing = (dn ++ [t]) ++ ((t.standing.drop 1) ++ st.flatMap Sm.standing) := by
          rw [ea, List.flatMap_cons]
          cases t with
          | lt n => simp [Sm.standing]
          | nv => simp [Sm.standing]
          | bin w l r => simp [Sm.standing]
        have pf' : Paired (IsSm K H) (fs ++ [x]) (dn ++ [t]) := pair_app pf (.cons hx .nil)
        have wlen : ws.length ≤ 10000 := by
          have h1 := pair_len pw
          have h2 := congrArg List.length ea
          rw [a.len_standing, List.length_append, List.flatMap_cons, List.length_append, t.len_standing] at h2
          have h3 : ∀ l : List Sm, l.length ≤ (l.flatMap Sm.standing).length := fun l => by
            induction l with
            | nil => exact Nat.le_refl _
            | cons z r ih =>
              rw [List.flatMap_cons, List.length_append, List.length_cons, z.len_standing]
              have := z.size_pos
              omega
          have := h3 st
          omega
        cases hx with
        | lt hT =>
          refine ⟨_, rfl, _, _, rfl, .inr (seqT sm1 hT), rfl, _, rfl, ?_⟩
          refine iteF ?_
          refine ⟨fs ++ [_], ws, dn ++ [_], st, _, rfl, ho2, hk1, pf', pw, ea', sm1, ?_⟩
          show (st.map Sm.size).sum < 1 + (st.map Sm.size).sum
          omega
        | nv hT =>
          refine ⟨_, rfl, _, _, rfl, .inr (seqT sm1 hT), rfl, _, rfl, ?_⟩
          refine iteF ?_
          refine ⟨fs ++ [_], ws, dn ++ [_], st, _, rfl, ho2, hk1, pf', pw, ea', sm1, ?_⟩
          show (st.map Sm.size).sum < 1 + (st.map Sm.size).sum
          omega
        | @bin ax w' l r sl sr hT hl hr' =>
          refine ⟨_, rfl, _, _, rfl, .inr (seqT sm1 hT), rfl, _, rfl, ?_⟩
          refine iteT ?_
          refine ⟨_, rfl, tyL hk1, _, rfl, ax, _, _, r, rfl, rfl, seqT sm1 hT, at2, k, _, _, rfl, rfl, hk1, ?_, ?_⟩
          · rw [List.length_reverse]
            exact small (by omega)
          rw [add_rev]
          have hk2 : (upd H4 k (.lst (r :: ws).reverse)) k = some (.lst (r :: ws).reverse) := upd_same
          have sm2 : Same H (upd H4 k (.lst (r :: ws).reverse)) := same_put sm1 nk0
          refine ⟨_, rfl, tyL hk2, _, rfl, ax, _, _, l, rfl, rfl, seqT sm2 hT, at1, k, _, _, rfl, rfl, hk2, ?_, ?_⟩
          · rw [List.length_reverse, List.length_cons]
            exact small (by omega)
          rw [add_rev]
          refine ⟨fs ++ [.ref ax], l :: r :: ws, dn ++ [_], sl :: sr :: st, _, rfl, ?_, upd_same, pf', .cons hl (.cons hr' pw), ?_, same_put sm2 nk0, ?_⟩
          · rw [upd_ne nko, upd_ne nko]
            exact ho2
          · rw [ea', List.flatMap_cons, List.flatMap_cons]
            simp [Sm.standing]
          · show sl.size + (sr.size + (st.map Sm.size).sum) < (sl.size + sr.size + 1) + (st.map Sm.size).sum
            omega
/-! ### joints -/
def sp_joints (K : PySem.W.Frag) : Sp := fun vs H Q _ => ∃ (v : V) (s : Sm), vs = [v] ∧ IsSm K H v s ∧ s.size ≤ 10000 ∧
  ∀ H', Same H H' → Q (.int s.joints) H'
theorem ok_joints (T : Txt w K mg) (c__standing : Cl P w K mg base 1 "_standing" (sp_standing K)) : Cl P w K mg base 2 "joints" (sp_joints K) := by
  refine T.d_joints.ok sc_joints (fun vs H Q E h => ?_) (fun f cdv A outer s H vs Q E hr h => ?_)
  · obtain ⟨v, s, rfl, _⟩ := h
    rfl
  · obtain ⟨v, a, rfl, hs, hz, q⟩ := h
    refine ⟨_, (pss_one (ps_ret (pe_callB (r := rLenK K) call_len_seq rfl T.n_len (by decide +kernel) (pa_cons (pe_lc (own := [("b", 1)]) rfl sc_joints.nd (pi_listK (K := K) (pe_k c__standing hr (by omega) rfl (pa_cons (pv 0) pa_nil))) (blkOk_by (N := sc_jointsN) (sc := defScope s_joints) (by decide +kernel)) (fun _ _ _ _ _ => (pg_name (i := 1) sc_joints.nd rfl (Or.inl rfl))) (fun _ _ _ _ _ => (pts_one (pt_cmpR op_eq (pe_callB (r := rLenK K) call_len_seq rfl T.n_len (by decide +kernel) (pa_cons (pv 1) pa_nil)) pe_int (nomark _)))) (fun _ _ _ _ _ => (pv 1))) pa_nil)))), ?_⟩
    refine ⟨_, rfl, v, a, rfl, hs, hz, fun p H1 ws s1 np e1 pw => ⟨p, rfl, ⟨_, SqL.of e1⟩, fun D nD => ?_⟩⟩
    have hwl : ws.length = a.size := by rw [pair_len pw, a.len_standing]
    refine lc_list (K := K) (a := p) (xs := ws) (fun i H3 => ∃ acc : List V, H3 D = some (.lst acc) ∧ acc.length = ((a.standing.take i).filter Sm.isBin).length ∧ Same H1 H3) ?_ ?_ ?_ ?_
    · exact ⟨[], upd_same, rfl, same_new nD⟩
    · rintro i H3 hi ⟨acc, _, _, s3⟩
      exact SqL.of (s3 _ _ e1)
    · rintro i x H3 hx ⟨acc, hD, hl, s3⟩
      obtain ⟨t, ht, it⟩ := pair_get pw hx
      have hlt : i < ws.length := (List.getElem?_eq_some_iff.mp hx).1
      have hacc : acc.length ≤ 10000 := by
        rw [hl]
        have h1 := List.length_filter_le Sm.isBin (a.standing.take i)
        rw [List.length_take] at h1
        omega
      have step : ((a.standing.take (i + 1)).filter Sm.isBin).length = ((a.standing.take i).filter Sm.isBin).length + (if t.isBin = true then 1 else 0) := by
        rw [List.take_add_one, ht, List.filter_append, List.length_append]
        congr 1
        show ([t].filter Sm.isBin).length = _
        by_cases hb : t.isBin = true
        · rw [List.filter_cons_of_pos hb, if_pos hb]
          rfl
        · rw [List.filter_cons_of_neg hb, if_neg hb]
          rfl
      have sH : Same H H3 := s1.trans s3
      cases it with
      | lt hT =>
        refine ⟨rfl, _, rfl, _, _, rfl, .inr (seqT sH hT), rfl, _, rfl, ?_⟩
        refine iteF ⟨acc, hD, ?_, s3⟩
        rw [step, hl]
        rfl
      | nv hT =>
        refine ⟨rfl, _, rfl, _, _, rfl, .inr (seqT sH hT), rfl, _, rfl, ?_⟩
        refine iteF ⟨acc, hD, ?_, s3⟩
        rw [step, hl]
        rfl
      | bin hT _ _ =>
        refine ⟨rfl, _, rfl, _, _, rfl, .inr (seqT sH hT), rfl, _, rfl, ?_⟩
        refine iteT ⟨_, rfl, acc, hD, small (by omega), acc ++ [_], upd_same, ?_, same_put s3 nD⟩
        rw [List.length_append, hl, step]
        rfl
    · rintro H3 ⟨acc, hD, hl, s3⟩
      refine ⟨D, _, rfl, .inl (SqL.of hD), ?_⟩
      rw [hl, List.take_of_length_le (by rw [a.len_standing]; omega), a.bin_standing]
      exact q H3 (s1.trans s3)
/-! ### knots -/
def sp_knots (K : PySem.W.Frag) : Sp := fun vs H Q _ => ∃ (v : V) (s : Sm), vs = [v] ∧ IsSm K H v s ∧ s.size ≤ 10000 ∧
  ∀ H', Same H H' → Q (.int (s.kn false)) H'
theorem ok_knots (T : Txt w K mg) : Cl P w K mg base 1 "knots" (sp_knots K) := by
  refine T.d_knots.ok sc_knots (fun vs H Q E h => ?_) (fun f cdv A outer s H vs Q E hr h => ?_)
  · obtain ⟨v, s, rfl, _⟩ := h
    rfl
  · obtain ⟨v, a, rfl, hs, hz, q⟩ := h
    refine ⟨_, (pss_cons (ps_set (i := 1) sc_knots.nd rfl (Or.inl rfl) pe_int)
    (pss_cons (ps_set (i := 2) sc_knots.nd rfl (Or.inl rfl) (pe_lst (pa_cons (pe_tup (pa_cons (pv 0) (pa_cons pe_bl pa_nil))) pa_nil)))
    (pss_cons (ps_while PassesOwn.never (pt_truthK (K := K) (pv 2) (by intro _; rfl))
      (pss_cons (ps_asg (pe_bm0 PySem.F.plainAttrs_list PySem.F.slot_list_pop PySem.F.type_list_pop mt_pop (pv 2)) (pg_tup rfl (pgs_cons (pg_name (i := 3) sc_knots.nd rfl (Or.inl rfl)) (pgs_cons (pg_name (i := 4) sc_knots.nd rfl (Or.inl rfl)) pgs_nil))))
        (pss_one (ps_if (pt_cmpR op_eq (pe_callB (r := rLenK K) call_len_seq rfl T.n_len (by decide +kernel) (pa_cons (pv 3) pa_nil)) pe_int (nomark _))
          (pss_cons (ps_asg (pv 3) (pg_tup rfl (pgs_cons (pg_name (i := 5) sc_knots.nd rfl (Or.inl rfl)) (pgs_cons (pg_name (i := 6) sc_knots.nd rfl (Or.inl rfl)) (pgs_cons (pg_name (i := 7) sc_knots.nd rfl (Or.inl rfl)) pgs_nil)))))
            (pss_cutO (ps_if (PW.pt (pw_or (pt_cmpR op_eq (pv 5) pe_str (nomark _)) (pw_or1 (PW.pt (pw_and (pt_cmpR op_eq (pv 5) pe_str (nomark _)) (pw_and1 (pt_val (pv 4))))))))
              (pss_one (ps_aug (i := 1) sc_knots.nd rfl (Or.inl rfl) pe_int ip_add))
              pss_nil)
            (pss_cons (ps_expr (pe_bm PySem.F.plainAttrs_list PySem.F.slot_list_append PySem.F.type_list_append mt_append (pv 2) (pa_cons (pe_tup (pa_cons (pv 6) (pa_cons (pe_or (pv 4) (pe_one (pe_cmpR op_eq (pv 5) pe_str (nomark _)))) pa_nil))) pa_nil)))
            (pss_one (ps_expr (pe_bm PySem.F.plainAttrs_list PySem.F.slot_list_append PySem.F.type_list_append mt_append (pv 2) (pa_cons (pe_tup (pa_cons (pv 7) (pa_cons (pv 4) pa_nil))) pa_nil)))))))
          pss_nil))))
    (pss_one (ps_ret (pv 1)))))), ?_⟩
    refine ⟨_, rfl, sz2, fun p0 np0 => ⟨sz1, fun k nk => ?_⟩⟩
    have nk0 : H k = none := (same_new np0).free nk
    refine ⟨fun m σ H3 => ∃ (mn : Nat) (ws : List V) (st : List (Sm × Bool)) (y3 y4 y5 y6 y7 : Option V), σ = [some v, some (.int mn), some (.ref k), y3, y4, y5, y6, y7] ∧ H3 k = some (.lst ws.reverse) ∧ Paired (WP K H H3) ws st ∧ a.kn false = mn + kns st ∧ szs st ≤ 10000 ∧ Same H H3 ∧ m = szs st, ⟨_, 0, [.ref p0], [(a, false)], none, none, none, none, none, rfl, upd_same, .cons ⟨p0, v, rfl, .inl (.inl (by rw [upd_ne (ne_of_none upd_same nk)]; exact upd_same)), hs⟩ .nil, ?_, hz, (same_new np0).trans (same_new nk), rfl⟩, ?_⟩
    · show a.kn false = 0 + (a.kn false + 0)
      omega
    · rintro m σ H3 ⟨mn, ws, st, y3, y4, y5, y6, y7, rfl, hk, pw, ek, hz3, sm, rfl⟩
      cases pw with
      | nil =>
        refine ⟨_, rfl, false, .inl ⟨_, SqL.of hk, rfl⟩, ?_⟩
        refine iteF ⟨_, rfl, ?_⟩
        have e : mn = a.kn false := ek.symm
        rw [e]
        exact q H3 sm
      | @cons x pc ws st hx pw =>
        obtain ⟨t, c⟩ := pc
        refine ⟨_, rfl, true, .inl ⟨_, SqL.of hk, emp_rev.symm⟩, ?_⟩
        refine iteT ⟨fun σ' H' => ∃ (mn : Nat) (ws : List V) (st' : List (Sm × Bool)) (y3 y4 y5 y6 y7 : Option V), σ' = [some v, some (.int mn), some (.ref k), y3, y4, y5, y6, y7] ∧ H' k = some (.lst ws.reverse) ∧ Paired (WP K H H') ws st' ∧ a.kn false = mn + kns st' ∧ szs st' ≤ 10000 ∧ Same H H' ∧ szs st' < szs ((t, c) :: st), fun σ' H' ⟨mn, ws, st', y3, y4, y5, y6, y7, e1, e2, e3, e4, e5, e6, e7⟩ => ⟨_, e7, mn, ws, st', y3, y4, y5, y6, y7, e1, e2, e3, e4, e5, e6, rfl⟩, ?_⟩
        obtain ⟨ap, xv, rfl, hT, hsx⟩ := hx
        refine ⟨_, rfl, tyL hk, k, _, _, rfl, rfl, hk, last_rev, ?_⟩
        rw [drop_rev]
        have tk1 : TK K H3 (upd H3 k (.lst ws.reverse)) := TK.lst hk
        have sm1 : Same H (upd H3 k (.lst ws.reverse)) := same_put sm nk0
        have hk1 : (upd H3 k (.lst ws.reverse)) k = some (.lst ws.reverse) := upd_same
        have pw1 : Paired (WP K H (upd H3 k (.lst ws.reverse))) ws st := pair_map (fun _ _ h => h.tk tk1) pw
        have hT1 := tk1 _ _ hT
        generalize upd H3 k (.lst ws.reverse) = H4 at tk1 sm1 hk1 pw1 hT1 ⊢
        refine ⟨ap, _, rfl, hT1, rfl, _, _, rfl, _, _, rfl, rfl, ?_⟩
        rw [szs_cons] at hz3 ⊢
        rw [kns_cons] at ek
        have tp := t.size_pos
        have wl : ws.length ≤ 10000 := by
          have h1 := pair_len pw
          have h2 := szs_len st
          omega
        cases hsx with
        | lt hX =>
          refine ⟨_, rfl, _, _, rfl, .inr (seqT sm1 hX), rfl, _, rfl, ?_⟩
          refine iteF ⟨mn, ws, st, _, _, _, _, _, rfl, hk1, pw1, ?_, by omega, sm1, by show szs st < 1 + szs st; omega⟩
          rw [ek]
          show mn + (0 + kns st) = mn + kns st
          omega
        | nv hX =>
          refine ⟨_, rfl, _, _, rfl, .inr (seqT sm1 hX), rfl, _, rfl, ?_⟩
          refine iteF ⟨mn, ws, st, _, _, _, _, _, rfl, hk1, pw1, ?_, by omega, sm1, by show szs st < 1 + szs st; omega⟩
          rw [ek]
          show mn + (0 + kns st) = mn + kns st
          omega
        | @bin ax w' l r sl sr hX hl hr' =>
          refine ⟨_, rfl, _, _, rfl, .inr (seqT sm1 hX), rfl, _, rfl, ?_⟩
          refine iteT ⟨_, rfl, ax, _, rfl, seqT sm1 hX, rfl, _, _, rfl, _, _, rfl, _, _, rfl, rfl, ?_⟩
          -- if word == 'or' or (word == 'then' and in_left)
          refine ⟨fun σ' H' => ∃ mn' : Nat, mn' = mn + (if w' = .or ∨ (w' = .thn ∧ c = true) then 1 else 0) ∧ σ' = [some v, some (.int mn'), some (.ref k), some (.ref ax), some (.bl c), some (.str w'.s), some l, some r] ∧ H4 = H', ?_, fun σ' H' h1 => ?_⟩
          · have hc := an_or (an_test (vl_eq (σ := [some v, some (.int (mn : Int)), some (.ref k), some (.ref ax), some (.bl c), some (.str w'.s), some l, some r]) (H := H4) (vl_var (i := 5) rfl) (vl_c (v := .str "or")) rfl)) (an_and (an_test (vl_eq (vl_var (i := 5) rfl) (vl_c (v := .str "then")) rfl)) (an_val (vl_var (i := 4) (v := .bl c) rfl)))
            refine hc _ (ite2 (fun hb => ?_) (fun hb => ?_))
            · have e1 := j_eq w' .or
              have e2 := j_eq w' .thn
              have hb' : (decide (w' = .or) || (decide (w' = .thn) && c)) = true := by
                rw [← e1, ← e2]
                exact hb
              refine ⟨_, rfl, _, _, rfl, rfl, mn + 1, ?_, rfl, rfl⟩
              rw [if_pos (by simpa using hb')]
            · have e1 := j_eq w' .or
              have e2 := j_eq w' .thn
              have hb' : ¬ (decide (w' = .or) || (decide (w' = .thn) && c)) = true := by
                rw [← e1, ← e2]
                exact hb
              refine ⟨mn, ?_, rfl, rfl⟩
              rw [if_neg (by simpa using hb')]
              exact (Nat.add_zero _).symm
          · obtain ⟨mn', em, rfl, rfl⟩ := h1
            have hflag := vl_orV (vl_var (i := 4) (v := .bl c) (H := H4) (σ := [some v, some (.int (mn' : Int)), some (.ref k), some (.ref ax), some (.bl c), some (.str w'.s), some l, some r]) rfl) (vl_eq (vl_var (i := 5) rfl) (vl_c (v := .str "then")) rfl)
            refine ⟨_, rfl, tyL hk1, _, rfl, hflag _ ?_⟩
            rw [show decide (V.str w'.s = V.str "then") = decide (w' = .thn) from j_eq w' .thn]
            refine ⟨sz2, fun p1 np1 => ⟨k, ws.reverse, _, rfl, rfl, ?_, ?_, ?_⟩⟩
            · rw [upd_ne (ne_of_none hk1 np1)]
              exact hk1
            · rw [List.length_reverse]
              exact small (by omega)
            rw [add_rev]
            have nkp : p1 ≠ k := (ne_of_none hk1 np1).symm
            have hk5 : (upd H4 p1 (.tup [l, .bl (c || decide (w' = .thn))])) k = some (.lst ws.reverse) := by
              rw [upd_ne nkp.symm]
              exact hk1
            have tk2 : TK K H4 (upd (upd H4 p1 (.tup [l, .bl (c || decide (w' = .thn))])) k (.lst (V.ref p1 :: ws).reverse)) := (TK.new np1).trans (TK.lst hk5)
            have sm2 : Same H (upd (upd H4 p1 (.tup [l, .bl (c || decide (w' = .thn))])) k (.lst (V.ref p1 :: ws).reverse)) := same_put (sm1.trans (same_new np1)) nk0
            have hk2 : (upd (upd H4 p1 (.tup [l, .bl (c || decide (w' = .thn))])) k (.lst (V.ref p1 :: ws).reverse)) k = some (.lst (V.ref p1 :: ws).reverse) := upd_same
            have hp1 : SqT K (upd (upd H4 p1 (.tup [l, .bl (c || decide (w' = .thn))])) k (.lst (V.ref p1 :: ws).reverse)) p1 [l, .bl (c || decide (w' = .thn))] := .inl (.inl (by rw [upd_ne nkp]; exact upd_same))
            generalize upd (upd H4 p1 (.tup [l, .bl (c || decide (w' = .thn))])) k (.lst (V.ref p1 :: ws).reverse) = H5 at tk2 sm2 hk2 hp1 ⊢
            refine ⟨_, rfl, tyL hk2, _, rfl, _, rfl, sz2, fun p2 np2 => ⟨k, (V.ref p1 :: ws).reverse, _, rfl, rfl, ?_, ?_, ?_⟩⟩
            · rw [upd_ne (ne_of_none hk2 np2)]
              exact hk2
            · rw [List.length_reverse, List.length_cons]
              exact small (by omega)
            rw [add_rev]
            have nkp2 : p2 ≠ k := (ne_of_none hk2 np2).symm
            have hk6 : (upd H5 p2 (.tup [r, .bl c])) k = some (.lst (V.ref p1 :: ws).reverse) := by
              rw [upd_ne nkp2.symm]
              exact hk2
            have tk3 : TK K H5 (upd (upd H5 p2 (.tup [r, .bl c])) k (.lst (V.ref p2 :: V.ref p1 :: ws).reverse)) := (TK.new np2).trans (TK.lst hk6)
            refine ⟨mn', .ref p2 :: .ref p1 :: ws, (sr, c) :: (sl, c || decide (w' = .thn)) :: st, _, _, _, _, _, rfl, upd_same, .cons ⟨p2, r, rfl, .inl (.inl (by rw [upd_ne nkp2]; exact upd_same)), hr'⟩ (.cons ⟨p1, l, rfl, tk3 _ _ hp1, hl⟩ (pair_map (fun _ _ h => h.tk (tk2.trans tk3)) pw1)), ?_, ?_, same_put (sm2.trans (same_new np2)) nk0, ?_⟩
            · rw [ek, em, kns_cons, kns_cons]
              show mn + (((if w' = .or ∨ (w' = .thn ∧ c = true) then 1 else 0) + sl.kn (c || decide (w' = .thn)) + sr.kn c) + kns st) = mn + (if w' = .or ∨ (w' = .thn ∧ c = true) then 1 else 0) + (sr.kn c + (sl.kn (c || decide (w' = .thn)) + kns st))
              omega
            · rw [szs_cons, szs_cons]
              have : (Sm.bin w' sl sr).size = sl.size + sr.size + 1 := rfl
              show sr.size + (sl.size + szs st) ≤ 10000
              have hz4 : (sl.size + sr.size + 1) + szs st ≤ 10000 := hz3
              omega
            · rw [szs_cons, szs_cons]
              show sr.size + (sl.size + szs st) < (sl.size + sr.size + 1) + szs st
              omega
/-! ### _law_cell -/
def sp_law_cell (K : PySem.W.Frag) : Sp := fun vs H Q _ => ∃ (a : Addr) (ns : List Int) (k : Nat), vs = [.ref a, .int k] ∧ SqL K H a (ns.map V.int) ∧ ∀ i : Int, Q (.int i) H
theorem ok_law_cell (T : Txt w K mg) : Cl P w K mg base 1 "_law_cell" (sp_law_cell K) := by
  refine T.d_law_cell.ok sc_law_cell (fun vs H Q E h => ?_) (fun f cdv A outer s H vs Q E hr h => ?_)
  · obtain ⟨a, ns, k, rfl, _⟩ := h
    rfl
  · obtain ⟨a, ns, k, rfl, hS, q⟩ := h
    refine ⟨_, (pss_cons (ps_if (pt_cmpR op_lt (pv 1) (pe_callB (r := rLenK K) call_len_seq rfl T.n_len (by decide +kernel) (pa_cons (pv 0) pa_nil)) (nomark _))
      (pss_one (ps_ret (pe_ix (r := rIxL K) ix_list (pv 0) (pv 1) (fun _ _ => rfl))))
      pss_nil)
    (pss_one (ps_ret (pe_op op_add (pv 1) pe_int)))), ?_⟩
    refine ⟨_, rfl, _, rfl, a, _, rfl, .inl hS, _, _, rfl, rfl, _, rfl, ite2 (fun c => ?_) (fun c => ?_)⟩
    · have c' : (k : Int) < (((ns.map V.int).length : Nat) : Int) := of_decide_eq_true c
      rw [List.length_map] at c'
      have hk : k < ns.length := by omega
      have g : (ns.map V.int)[k]? = some (.int ns[k]) := by
        rw [List.getElem?_map, List.getElem?_eq_getElem hk]
        rfl
      exact ⟨_, rfl, _, rfl, a, _, _, _, rfl, rfl, hS, atI_nat g, q _⟩
    · exact ⟨_, rfl, _, _, rfl, rfl, q _⟩
/-! ### _law_row -/
def sp_law_row (K : PySem.W.Frag) : Sp := fun vs H Q _ => ∃ (c : Int) (m : Nat), vs = [.int c, .int m] ∧ m ≤ 10000 ∧
  ∀ p H' (row : List Int), Same H H' → H p = none → H' p = some (.lst (row.map V.int)) → row.length = m → (∀ x ∈ row, 0 ≤ x ∧ x < 1009) → Q (.ref p) H'
theorem small_mod (z : Int) : -(2 ^ 64) < z % 2147483647 ∧ z % 2147483647 < 2 ^ 64 := ⟨Int.lt_of_lt_of_le (by decide) (Int.emod_nonneg _ (by decide)), Int.lt_trans (Int.emod_lt_of_pos _ (by decide)) (by decide)⟩
theorem ok_law_row (T : Txt w K mg) : Cl P w K mg base 1 "_law_row" (sp_law_row K) := by
  refine T.d_law_row.ok sc_law_row (fun vs H Q E h => ?_) (fun f cdv A outer s H vs Q E hr h => ?_)
  · obtain ⟨c, m, rfl, _⟩ := h
    rfl
  · obtain ⟨c, m, rfl, hm, q⟩ := h
    refine ⟨_, (pss_cons (ps_set (i := 2) sc_law_row.nd rfl (Or.inl rfl) (pe_lst pa_nil))
    (pss_cons (ps_set (i := 3) sc_law_row.nd rfl (Or.inl rfl) pe_int)
    (pss_cutO (ps_if (pt_cmpR op_ge (pv 0) (pe_op op_pow pe_int pe_int) (nomark _))
      (pss_one (ps_set (i := 3) sc_law_row.nd rfl (Or.inl rfl) (pv 0)))
      pss_nil)
    (pss_cons (ps_set (i := 4) sc_law_row.nd rfl (Or.inl rfl) (pe_op op_mod (pv 0) pe_int))
    (pss_cons (ps_for PassesOwn.never rfl (pi_range1 rfl T.n_range (pa_cons (pv 1) pa_nil)) (pg_name (i := 5) sc_law_row.nd rfl (Or.inl rfl))
      (pss_cons (ps_set (i := 4) sc_law_row.nd rfl (Or.inl rfl) (pe_op op_mod (pe_op op_add (pe_op op_add (pe_op op_mul (pv 4) pe_int) (pe_op op_mul pe_int (pv 5))) pe_int) pe_int))
        (pss_cons (ps_set (i := 4) sc_law_row.nd rfl (Or.inl rfl) (pe_op op_mod (pe_op op_mul (pv 4) (pe_op op_add (pe_op op_fdiv (pv 4) pe_int) pe_int)) pe_int))
        (pss_one (ps_if (pt_cmpR op_gt (pv 3) pe_int (nomark _))
          (pss_cons (ps_expr (pe_bm PySem.F.plainAttrs_list PySem.F.slot_list_append PySem.F.type_list_append mt_append (pv 2) (pa_cons (pe_op op_mod (pv 3) pe_int) pa_nil)))
            (pss_one (ps_set (i := 3) sc_law_row.nd rfl (Or.inl rfl) (pe_op op_fdiv (pv 3) pe_int))))
          (pss_one (ps_expr (pe_bm PySem.F.plainAttrs_list PySem.F.slot_list_append PySem.F.type_list_append mt_append (pv 2) (pa_cons (pe_op op_mod (pe_op op_fdiv (pv 4) pe_int) pe_int) pa_nil)))))))))
    (pss_one (ps_ret (pv 2)))))))), ?_⟩
    -- row, rest
    refine ⟨Nat.zero_le _, fun o no => ?_⟩
    -- if cell >= 10 ** 18
    refine ⟨fun σ' H' => ∃ r : Int, σ' = [some (.int c), some (.int m), some (.ref o), some (.int r), none, none] ∧ H' = upd H o (.lst []), ?_, fun σ' H' h1 => ?_⟩
    · refine ⟨_, rfl, _, _, rfl, rfl, ⟨by decide, by decide, by decide⟩, _, _, rfl, rfl, _, rfl, ite2 (fun _ => ?_) (fun _ => ?_)⟩
      · exact ⟨_, rfl, _, rfl, rfl⟩
      · exact ⟨_, rfl, rfl⟩
    · obtain ⟨r, rfl, rfl⟩ := h1
      refine ⟨_, rfl, _, _, rfl, rfl, (by show (0 : Int) < 2147483647; decide), ?_⟩
      refine ⟨_, rfl, _, rfl, by omega, by omega, for_range (lo := 0) (n := m) (fun i σ H3 => ∃ (rest num : Int) (y : Option V) (row : List Int), σ = [some (.int c), some (.int m), some (.ref o), some (.int rest), some (.int num), y] ∧ 0 ≤ num ∧ num < 2147483647 ∧
        H3 o = some (.lst (row.map V.int)) ∧ row.length = i ∧ (∀ x ∈ row, 0 ≤ x ∧ x < 1009) ∧ Same H H3) ?_ ?_ ?_⟩
      · exact ⟨_, _, _, [], rfl, Int.emod_nonneg _ (by decide), Int.emod_lt_of_pos _ (by decide), upd_same, rfl, fun _ h => (nomatch h), same_new no⟩
      · intro i σ H3 hi hp
        obtain ⟨rest, num, y, row, rfl, h0, h1, ho, hl, hr9, sm⟩ := hp
        -- number
        refine ⟨_, rfl, _, _, rfl, rfl, .inl ⟨by omega, by omega⟩, _, rfl, _, _, rfl, rfl, .inl ⟨by decide, by decide⟩, _, _, rfl, rfl, _, _, rfl, rfl, _, _, rfl, rfl, (by show (0 : Int) < 2147483647; decide), ?_⟩
        refine ⟨_, rfl, _, rfl, _, _, rfl, rfl, ⟨by decide, by decide⟩, _, _, rfl, rfl, _, _, rfl, rfl, .inl (small_mod _), _, _, rfl, rfl, (by show (0 : Int) < 2147483629; decide), ?_⟩
        have hz : (row.map V.int).length < sizeLine := by
          rw [List.length_map]
          exact small (by omega)
        have fin : ∀ z : Int, 0 ≤ z → z < 1009 → ∃ row' : List Int, upd H3 o (.lst (row.map V.int ++ [V.int z])) o = some (.lst (row'.map V.int)) ∧ row'.length = i + 1 ∧ (∀ x ∈ row', 0 ≤ x ∧ x < 1009) := fun z z0 z1 =>
          ⟨row ++ [z], by rw [upd_same, List.map_append]; rfl, by rw [List.length_append, hl]; rfl, fun x hx => by
            rcases List.mem_append.mp hx with hx | hx
            · exact hr9 x hx
            · rw [List.mem_singleton.mp hx]
              exact ⟨z0, z1⟩⟩
        refine ⟨_, rfl, _, _, rfl, rfl, _, rfl, ite2 (fun _ => ?_) (fun _ => ?_)⟩
        · refine ⟨_, rfl, tyL ho, _, rfl, _, _, rfl, rfl, (by show (0 : Int) < 1009; decide), o, _, _, rfl, rfl, ho, hz, ?_⟩
          refine ⟨_, rfl, _, _, rfl, rfl, ⟨by decide, by decide⟩, ?_⟩
          obtain ⟨row', e1, e2, e3⟩ := fin (rest % 1009) (Int.emod_nonneg _ (by decide)) (Int.emod_lt_of_pos _ (by decide))
          exact ⟨_, _, _, row', rfl, Int.emod_nonneg _ (by decide), Int.lt_trans (Int.emod_lt_of_pos _ (by decide)) (by decide), e1, e2, e3, same_put sm no⟩
        · refine ⟨_, rfl, tyL ho, _, rfl, _, _, rfl, rfl, ⟨by decide, by decide⟩, _, _, rfl, rfl, (by show (0 : Int) < 1009; decide), o, _, _, rfl, rfl, ho, hz, ?_⟩
          obtain ⟨row', e1, e2, e3⟩ := fin (_ / 7 % 1009) (Int.emod_nonneg _ (by decide)) (Int.emod_lt_of_pos _ (by decide))
          exact ⟨_, _, _, row', rfl, Int.emod_nonneg _ (by decide), Int.lt_trans (Int.emod_lt_of_pos _ (by decide)) (by decide), e1, e2, e3, same_put sm no⟩
      · intro σ H3 hp
        obtain ⟨rest, num, y, row, rfl, h0, h1, ho, hl, hr9, sm⟩ := hp
        exact ⟨_, rfl, q o H3 row sm no ho hl hr9⟩
/-! ### _law_names -/
def sp_law_names (K : PySem.W.Frag) : Sp := fun vs H Q _ => ∃ c : Int, vs = [.int c] ∧
  ∀ p H' (ls : List (List Nat)), Same H H' → H p = none → H' p = some (.lst (ls.map fun l => V.str (S l))) → ls.length = 4 → (∀ l ∈ ls, Nm l) → Q (.ref p) H'
theorem ok_law_names (T : Txt w K mg) (c__law_row : Cl P w K mg base 1 "_law_row" (sp_law_row K)) : Cl P w K mg base 2 "_law_names" (sp_law_names K) := by
  refine T.d_law_names.ok sc_law_names (fun vs H Q E h => ?_) (fun f cdv A outer s H vs Q E hr h => ?_)
  · obtain ⟨c, rfl, _⟩ := h
    rfl
  · obtain ⟨c, rfl, q⟩ := h
    refine ⟨_, (pss_cons (ps_set (i := 1) sc_law_names.nd rfl (Or.inl rfl) (pe_k c__law_row hr (by omega) rfl (pa_cons (pv 0) (pa_cons pe_int pa_nil))))
    (pss_cons (ps_set (i := 2) sc_law_names.nd rfl (Or.inl rfl) (pe_lst pa_nil))
    (pss_cons (ps_for PassesOwn.never rfl (pi_range1 rfl T.n_range (pa_cons pe_int pa_nil)) (pg_name (i := 3) sc_law_names.nd rfl (Or.inl rfl))
      (pss_cons (ps_set (i := 4) sc_law_names.nd rfl (Or.inl rfl) (pe_slice (r := rSlL K) sl_list (pv 1) (po_some (pe_op op_mul pe_int (pv 3))) (po_some (pe_op op_add (pe_op op_mul pe_int (pv 3)) pe_int))))
        (pss_cons (ps_set (i := 5) sc_law_names.nd rfl (Or.inl rfl) (pe_join pe_str (pe_lc (own := [("_law_one", 6)]) rfl sc_law_names.nd (pi_listK (K := K) (pe_slice (r := rSlL K) sl_list (pv 4) (po_some pe_int) (po_some (pe_op op_add pe_int (pe_op op_mod (pe_ix (r := rIxL K) ix_list (pv 4) pe_int (fun _ _ => rfl)) pe_int))))) (blkOk_by (N := sc_law_namesN) (sc := defScope s_law_names) (by decide +kernel)) (fun _ _ _ _ _ => (pg_name (i := 6) sc_law_names.nd rfl (Or.inl rfl))) (fun _ _ _ _ _ => pts_nil) (fun _ _ _ _ _ => (pe_ix ix_str pe_str (pe_op op_mod (pv 6) pe_int) (fun _ _ => rfl))))))
        (pss_cutO (ps_if (pt_cmpR (r := rIn K false) op_in_seq (pv 5) (pe_lst (pa_cons pe_str (pa_cons pe_str (pa_cons pe_str (pa_cons pe_str pa_nil))))) (by rfl))
          (pss_one (ps_set (i := 5) sc_law_names.nd rfl (Or.inl rfl) (pe_op op_add_str (pv 5) pe_str)))
          pss_nil)
        (pss_one (ps_expr (pe_bm PySem.F.plainAttrs_list PySem.F.slot_list_append PySem.F.type_list_append mt_append (pv 2) (pa_cons (pv 5) pa_nil))))))))
    (pss_one (ps_ret (pv 2)))))), ?_⟩
    refine ⟨_, rfl, c, 36, rfl, by decide, fun pr H1 row s1 np e1 hl h9 => ?_⟩
    refine ⟨Nat.zero_le _, fun o no => ?_⟩
    have no0 : H o = none := s1.free no
    refine ⟨4, rfl, by decide, by decide, for_range (lo := 0) (n := 4) (fun i σ H3 => ∃ (y1 y2 y3 y4 : Option V) (ls : List (List Nat)), σ = [some (.int c), some (.ref pr), some (.ref o), y1, y2, y3, y4] ∧ H3 o = some (.lst (ls.map fun l => V.str (S l))) ∧ ls.length = i ∧ (∀ l ∈ ls, Nm l) ∧ Same H H3 ∧ H3 pr = some (.lst (row.map V.int))) ?_ ?_ ?_⟩
    · exact ⟨_, _, _, _, [], rfl, upd_same, rfl, fun _ h => (nomatch h), s1.trans (same_new no), by rw [upd_ne (ne_of_none e1 no)]; exact e1⟩
    · intro i σ H3 hi hp
      obtain ⟨y1, y2, y3, y4, ls, rfl, ho, hl3, hnm, sm, hr3⟩ := hp
      -- some = row[9 * k:9 * k + 9]
      refine ⟨_, rfl, _, rfl, _, _, rfl, rfl, .inl ⟨by decide, by decide⟩, _, rfl, _, rfl, _, _, rfl, rfl, .inl ⟨by decide, by decide⟩, _, _, rfl, rfl, _, rfl, pr, _, rfl, SqL.of hr3, fun ps nps => ?_⟩
      obtain ⟨z0, r8, e9, l8⟩ : ∃ z0 r8, (row.drop (9 * i)).take 9 = z0 :: r8 ∧ r8.length = 8 := by
        have h : ((row.drop (9 * i)).take 9).length = 9 := by
          rw [List.length_take, List.length_drop, hl]
          omega
        cases hh : (row.drop (9 * i)).take 9 with
        | nil =>
          rw [hh] at h
          exact absurd h (by decide)
        | cons a r =>
          rw [hh, List.length_cons] at h
          exact ⟨a, r, rfl, by omega⟩
      have ec : cutV (row.map V.int) (some (9 * (0 + (i : Int)))) (some (9 * (0 + (i : Int)) + 9)) = (z0 :: r8).map V.int := by
        rw [show 9 * (0 + (i : Int)) + 9 = ((9 * i + 9 : Nat) : Int) by omega, show 9 * (0 + (i : Int)) = ((9 * i : Nat) : Int) by omega, cut_nat, ← List.map_drop, ← List.map_take, show 9 * i + 9 - 9 * i = 9 by omega, e9]
      have hps : (upd H3 ps (.lst (cutV (row.map V.int) (some (9 * (0 + (i : Int)))) (some (9 * (0 + (i : Int)) + 9))))) ps = some (.lst ((z0 :: r8).map V.int)) := by
        rw [upd_same, ec]
      have sm4 : Same H3 (upd H3 ps (.lst (cutV (row.map V.int) (some (9 * (0 + (i : Int)))) (some (9 * (0 + (i : Int)) + 9))))) := same_new nps
      generalize upd H3 ps (.lst (cutV (row.map V.int) (some (9 * (0 + (i : Int)))) (some (9 * (0 + (i : Int)) + 9)))) = H4 at hps sm4
      -- word = ''.join(..)
      refine ⟨⟨_, rfl⟩, _, rfl, 1, rfl, .ref ps, rfl, ps, _, 0, _, rfl, rfl, SqL.of hps, at0, _, _, rfl, rfl, (by show (0 : Int) < 8; decide), _, _, rfl, rfl, _, rfl, ps, _, rfl, SqL.of hps, fun pt npt => ?_⟩
      obtain ⟨n8, hn8⟩ : ∃ n : Nat, z0 % 8 = (n : Int) ∧ n < 8 := ⟨(z0 % 8).toNat, by have h1 := Int.emod_nonneg z0 (show (8 : Int) ≠ 0 by decide); have h2 := Int.emod_lt_of_pos z0 (show (0 : Int) < 8 by decide); omega⟩
      have ec2 : cutV ((z0 :: r8).map V.int) (some 1) (some (2 + z0 % 8)) = (r8.take (1 + n8)).map V.int := by
        rw [hn8.1, show (2 + (n8 : Int)) = ((2 + n8 : Nat) : Int) by omega, show (1 : Int) = ((1 : Nat) : Int) from rfl, cut_nat, ← List.map_drop, ← List.map_take, show 2 + n8 - 1 = 1 + n8 by omega]
        rfl
      have hpt : (upd H4 pt (.lst (cutV ((z0 :: r8).map V.int) (some 1) (some (2 + z0 % 8))))) pt = some (.lst ((r8.take (1 + n8)).map V.int)) := by
        rw [upd_same, ec2]
      have sm5 : Same H4 (upd H4 pt (.lst (cutV ((z0 :: r8).map V.int) (some 1) (some (2 + z0 % 8))))) := same_new npt
      show ∃ a, V.ref pt = .ref a ∧ (∃ xs, SqL K (upd H4 pt (.lst (cutV ((z0 :: r8).map V.int) (some 1) (some (2 + z0 % 8))))) a xs) ∧ _
      generalize upd H4 pt (.lst (cutV ((z0 :: r8).map V.int) (some 1) (some (2 + z0 % 8)))) = H5 at hpt sm5 ⊢
      refine ⟨pt, rfl, ⟨_, SqL.of hpt⟩, fun D nD => ?_⟩
      refine lc_list (K := K) (a := pt) (xs := (r8.take (1 + n8)).map V.int) (fun j H6 => ∃ cs : List Nat, H6 D = some (.lst (cs.map fun c => V.str (S [c]))) ∧ cs.length = j ∧ (∀ c ∈ cs, 97 ≤ c ∧ c ≤ 122) ∧ Same H5 H6) ?_ ?_ ?_ ?_
      · exact ⟨[], upd_same, rfl, fun _ h => (nomatch h), same_new nD⟩
      · intro j H6 hj hp
        obtain ⟨cs, _, _, _, s6⟩ := hp
        exact SqL.of (s6 _ _ hpt)
      · intro j x H6 hx hp
        obtain ⟨cs, hD, hcl, hcs, s6⟩ := hp
        rw [List.getElem?_map] at hx
        obtain ⟨z, hz, rfl⟩ := Option.map_eq_some_iff.mp hx
        have h1 := Int.emod_nonneg z (show (26 : Int) ≠ 0 by decide)
        have h2 := Int.emod_lt_of_pos z (show (0 : Int) < 26 by decide)
        obtain ⟨n, en⟩ : ∃ n : Nat, z % 26 = (n : Int) := ⟨(z % 26).toNat, by omega⟩
        have hlt : j < (r8.take (1 + n8)).length := (List.getElem?_eq_some_iff.mp hz).1
        rw [List.length_take, l8] at hlt
        refine ⟨rfl, ?_⟩
        refine ⟨.int z, rfl, _, _, rfl, rfl, (by show (0 : Int) < 26; decide), _, _, 97 + n, rfl, rfl, (by decide), ?_, _, hD, ?_, cs ++ [97 + n], ?_, ?_, ?_, ?_⟩
        · show atI _ (z % 26) = _
          rw [en]
          exact atI_nat (abc_at n (by omega))
        · rw [List.length_map]
          exact small (by omega)
        · rw [upd_same, List.map_append]
          rfl
        · rw [List.length_append, hcl]
          rfl
        · intro c hc
          rcases List.mem_append.mp hc with hc | hc
          · exact hcs c hc
          · rw [List.mem_singleton.mp hc]
            omega
        · exact same_put s6 nD
      · intro H6 hp
        obtain ⟨cs, hD, hcl, hcs, s6⟩ := hp
        have hl1 : cs.length = 1 + n8 := by
          rw [hcl, List.length_map, List.length_take, l8]
          omega
        have ho6 : H6 o = some (.lst (ls.map fun l => V.str (S l))) := s6 _ _ (sm5 _ _ (sm4 _ _ ho))
        have hr6 : H6 pr = some (.lst (row.map V.int)) := s6 _ _ (sm5 _ _ (sm4 _ _ hr3))
        have smH : Same H H6 := sm.trans (sm4.trans (sm5.trans s6))
        refine ⟨_, D, cs.map fun c => S [c], rfl, rfl, .inl (SqL.of (by rw [List.map_map]; exact hD)), ?_, ?_⟩
        · rw [sum_ones, List.length_map]
          show cs.length + cs.length * 0 ≤ 16777216
          omega
        · rw [join_signs]
          -- if word in [..]
          refine ⟨fun σ' H' => ∃ (y1 y2 y4 : Option V) (l : List Nat), σ' = [some (.int c), some (.ref pr), some (.ref o), y1, y2, some (.str (S l)), y4] ∧ Nm l ∧ H' o = some (.lst (ls.map fun l => V.str (S l))) ∧ Same H H' ∧ H' pr = some (.lst (row.map V.int)), ?_, fun σ' H' h1 => ?_⟩
          · refine ⟨_, rfl, by decide, fun pk npk => ⟨pk, _, rfl, .inl (SqL.of upd_same), rfl, rfl, _, rfl, ?_⟩⟩
            have so : ∀ v, (upd H6 pk v) o = some (.lst (ls.map fun l => V.str (S l))) := fun v => by
              rw [upd_ne (ne_of_none ho6 npk)]
              exact ho6
            have sr : ∀ v, (upd H6 pk v) pr = some (.lst (row.map V.int)) := fun v => by
              rw [upd_ne (ne_of_none hr6 npk)]
              exact hr6
            refine ite2 (fun hin => ?_) (fun hin => ?_)
            · refine ⟨_, rfl, _, _, rfl, rfl, ?_, ?_⟩
              · rw [S_len]
                show cs.length + 1 ≤ sizeLine
                exact small' (by omega)
              · have e : S (cs ++ [120]) = S cs ++ Str.ofString "x" := (S_cat cs [120]).symm
                exact ⟨some (.int (0 + (i : Int))), some (.ref ps), y4, cs ++ [120], by rw [e]; rfl, nm_x hin, so _, smH.trans (same_new npk), sr _⟩
            · exact ⟨_, _, _, cs, rfl, nm_no (by omega) (by omega) hcs hin, so _, smH.trans (same_new npk), sr _⟩
          · obtain ⟨y1, y2, y4, l, rfl, hn, ho', sH, hr'⟩ := h1
            refine ⟨_, rfl, tyL ho', _, rfl, o, _, _, rfl, rfl, ho', ?_, ?_⟩
            · rw [List.length_map]
              exact small (by omega)
            · refine ⟨_, _, _, _, ls ++ [l], rfl, ?_, ?_, ?_, same_put sH no0, ?_⟩
              · rw [upd_same, List.map_append]
                rfl
              · rw [List.length_append, hl3]
                rfl
              · intro l' hl'
                rcases List.mem_append.mp hl' with h | h
                · exact hnm l' h
                · rw [List.mem_singleton.mp h]
                  exact hn
              · rw [upd_ne (ne_of_none e1 no)]
                exact hr'
    · intro σ H3 hp
      obtain ⟨y1, y2, y3, y4, ls, rfl, ho, hl3, hnm, sm, hr3⟩ := hp
      exact ⟨_, rfl, q o H3 ls sm no0 ho hl3 hnm⟩
/-! ### _law_grown -/
def sp_law_grown (K : PySem.W.Frag) (n : Nat) : Sp := fun vs H Q _ => ∃ (pr pn : Addr) (row : List Int) (ls : List (List Nat)) (i b : Nat), vs = [.ref pr, .ref pn, .int i, .int b] ∧ SqL K H pr (row.map V.int) ∧ SqL K H pn (ls.map fun l => V.str (S l)) ∧ row ≠ [] ∧ (∀ x ∈ row, 0 ≤ x ∧ x < 1009) ∧ ls.length = 4 ∧ b < n ∧
  ∀ p H' v (s : Sm) (j : Nat), Same H H' → H' p = some (.tup [v, .int j]) → IsSm K H' v s → s.joints = b → s.In (· ∈ ls) → Q (.ref p) H'
theorem jw {i : Int} (h0 : 0 ≤ i) (h4 : i < 4) : ∃ w : J, atI [V.str "and", V.str "or", V.str "then", V.str "then"] i = some (.str w.s) := by
  obtain ⟨n, rfl⟩ : ∃ n : Nat, i = (n : Int) := ⟨i.toNat, by omega⟩
  match n, (show n < 4 by omega) with
  | 0, _ => exact ⟨.and, atI_nat rfl⟩
  | 1, _ => exact ⟨.or, atI_nat rfl⟩
  | 2, _ => exact ⟨.thn, atI_nat rfl⟩
  | 3, _ => exact ⟨.thn, atI_nat rfl⟩
theorem ok_law_grown (T : Txt w K mg) : ∀ n : Nat, Cl P w K mg base n "_law_grown" (sp_law_grown K n)
  | 0 => T.d_law_grown.none fun vs H Q E h => by
    obtain ⟨_, _, _, _, _, b, _, _, _, _, _, _, h, _⟩ := h
    omega
  | n + 1 => by
    have c__law_grown : Cl P w K mg base n "_law_grown" (sp_law_grown K n) := ok_law_grown T n
    refine T.d_law_grown.ok sc_law_grown (fun vs H Q E h => ?_) (fun f cdv A outer s H vs Q E hr h => ?_)
    · obtain ⟨_, _, _, _, _, b, rfl, _⟩ := h
      rfl
    · obtain ⟨pr, pn, row, ls, i, b, rfl, hR, hN, hne, h9, hl4, hb, q⟩ := h
      have hlen : 0 < (row.map V.int).length := by
        rw [List.length_map]
        exact List.length_pos_iff.mpr hne
      obtain ⟨num, hnum, hmem⟩ : ∃ num : Int, (row.map V.int)[i % (row.map V.int).length]? = some (.int num) ∧ num ∈ row := by
        have hlt : i % (row.map V.int).length < row.length := by
          have := Nat.mod_lt i hlen
          rw [List.length_map] at this ⊢
          exact this
        exact ⟨row[i % (row.map V.int).length], by rw [List.getElem?_map, List.getElem?_eq_getElem hlt]; rfl, List.getElem_mem _⟩
      obtain ⟨n0, n9⟩ := h9 num hmem
      refine ⟨_, (pss_cons (ps_set (i := 4) sc_law_grown.nd rfl (Or.inl rfl) (pe_ix (r := rIxL K) ix_list (pv 0) (pe_op op_mod (pv 2) (pe_callB (r := rLenK K) call_len_seq rfl T.n_len (by decide +kernel) (pa_cons (pv 0) pa_nil))) (fun _ _ => rfl)))
    (pss_cons (ps_if (pt_cmpR op_eq (pv 3) pe_int (nomark _))
      (pss_cons (ps_if (pt_cmpR op_eq (pe_op op_mod (pe_op op_fdiv (pv 4) pe_int) pe_int) pe_int (nomark _))
          (pss_one (ps_ret (pe_tup (pa_cons (pe_tup (pa_cons pe_str pa_nil)) (pa_cons (pe_op op_add (pv 2) pe_int) pa_nil)))))
          pss_nil)
        (pss_one (ps_ret (pe_tup (pa_cons (pe_tup (pa_cons pe_str (pa_cons (pe_ix (r := rIxL K) ix_list (pv 1) (pe_op op_mod (pe_op op_fdiv (pv 4) pe_int) pe_int) (fun _ _ => rfl)) pa_nil))) (pa_cons (pe_op op_add (pv 2) pe_int) pa_nil))))))
      pss_nil)
    (pss_cons (ps_set (i := 5) sc_law_grown.nd rfl (Or.inl rfl) (pe_op op_mod (pe_op op_fdiv (pv 4) pe_int) (pv 3)))
    (pss_cons (ps_asg (pe_k c__law_grown hr (by omega) rfl (pa_cons (pv 0) (pa_cons (pv 1) (pa_cons (pe_op op_add (pv 2) pe_int) (pa_cons (pv 5) pa_nil))))) (pg_tup rfl (pgs_cons (pg_name (i := 6) sc_law_grown.nd rfl (Or.inl rfl)) (pgs_cons (pg_name (i := 2) sc_law_grown.nd rfl (Or.inl rfl)) pgs_nil))))
    (pss_cons (ps_asg (pe_k c__law_grown hr (by omega) rfl (pa_cons (pv 0) (pa_cons (pv 1) (pa_cons (pv 2) (pa_cons (pe_op op_sub (pe_op op_sub (pv 3) pe_int) (pv 5)) pa_nil))))) (pg_tup rfl (pgs_cons (pg_name (i := 7) sc_law_grown.nd rfl (Or.inl rfl)) (pgs_cons (pg_name (i := 2) sc_law_grown.nd rfl (Or.inl rfl)) pgs_nil))))
    (pss_one (ps_ret (pe_tup (pa_cons (pe_tup (pa_cons (pe_ix (r := rIxL K) ix_list (pe_lst (pa_cons pe_str (pa_cons pe_str (pa_cons pe_str (pa_cons pe_str pa_nil))))) (pe_op op_mod (pv 4) pe_int) (fun _ _ => rfl)) (pa_cons (pv 6) (pa_cons (pv 7) pa_nil)))) (pa_cons (pv 2) pa_nil)))))))))), ?_⟩
      refine ⟨_, rfl, _, rfl, _, rfl, pr, _, rfl, .inl hR, _, _, rfl, rfl, (by show (0 : Int) < _; omega), pr, _, _, _, rfl, rfl, hR, atI_nat hnum, ?_⟩
      refine ⟨_, rfl, rfl, _, rfl, ite2 (fun hz => ?_) (fun hz => ?_)⟩
      · have hb0 : b = 0 := by
          have := V.int.inj (of_decide_eq_true hz)
          omega
        refine ⟨_, rfl, _, _, rfl, rfl, ⟨by decide, by decide⟩, _, _, rfl, rfl, (by show (0 : Int) < 9; decide), rfl, _, rfl, ite2 (fun _ => ?_) (fun _ => ?_)⟩
        · refine ⟨by decide, fun t nt => ⟨_, rfl, _, _, rfl, rfl, sz2, fun p np => ?_⟩⟩
          refine q p _ (.ref t) .nv (i + 1) ((same_new nt).trans (same_new np)) upd_same (.nv (.inl (.inl ?_))) hb0.symm True.intro
          rw [upd_ne (ne_of_none upd_same np)]
          exact upd_same
        · have k0 : 0 ≤ num / 72 % 4 := Int.emod_nonneg _ (by decide)
          have k4 : num / 72 % 4 < 4 := Int.emod_lt_of_pos _ (by decide)
          obtain ⟨m, em⟩ : ∃ m : Nat, num / 72 % 4 = (m : Int) := ⟨(num / 72 % 4).toNat, by omega⟩
          have hlt : m < ls.length := by omega
          have hg : (ls.map fun l => V.str (S l))[m]? = some (.str (S ls[m])) := by
            rw [List.getElem?_map, List.getElem?_eq_getElem hlt]
            rfl
          refine ⟨_, rfl, _, rfl, _, _, rfl, rfl, ⟨by decide, by decide⟩, _, _, rfl, rfl, (by show (0 : Int) < 4; decide), pn, _, _, .str (S ls[m]), rfl, rfl, hN, at_of em hg, sz2, fun t nt => ⟨_, rfl, _, _, rfl, rfl, sz2, fun p np => ?_⟩⟩
          refine q p _ (.ref t) (.lt ls[m]) (i + 1) ((same_new nt).trans (same_new np)) upd_same (.lt (.inl (.inl ?_))) hb0.symm (List.getElem_mem _)
          rw [upd_ne (ne_of_none upd_same np)]
          exact upd_same
      · have hb0 : b ≠ 0 := fun e => hz (by rw [e]; exact decide_eq_true rfl)
        refine ⟨_, rfl, _, _, rfl, rfl, ⟨by decide, by decide⟩, _, rfl, _, _, rfl, rfl, (by show (0 : Int) < _; omega), ?_⟩
        have k0 : 0 ≤ num / 8 % (b : Int) := Int.emod_nonneg _ (by omega)
        have k1 : num / 8 % (b : Int) < b := Int.emod_lt_of_pos _ (by omega)
        obtain ⟨m, em⟩ : ∃ m : Nat, num / 8 % (b : Int) = (m : Int) := ⟨(num / 8 % (b : Int)).toNat, by omega⟩
        refine ⟨_, rfl, _, rfl, _, rfl, _, _, rfl, rfl, _, rfl, pr, pn, row, ls, i + 1, m, ?_, hR, hN, hne, h9, hl4, by omega, fun p1 H1 v1 a1 j1 s1 e1 i1 b1 l1 => ?_⟩
        · show [V.ref pr, V.ref pn, V.int ((i : Int) + 1), V.int (num / 8 % (b : Int))] = _
          rw [em]
          rfl
        refine ⟨p1, _, rfl, SqT.of e1, rfl, _, _, rfl, _, _, rfl, rfl, ?_⟩
        refine ⟨_, rfl, _, rfl, _, rfl, _, rfl, _, _, rfl, rfl, _, rfl, _, _, rfl, rfl, pr, pn, row, ls, j1, b - 1 - m, ?_, s1.seq hR, s1.seq hN, hne, h9, hl4, by omega, fun p2 H2 v2 a2 j2 s2 e2 i2 b2 l2 => ?_⟩
        · show [V.ref pr, V.ref pn, V.int j1, V.int ((b : Int) - 1 - num / 8 % (b : Int))] = _
          rw [em, show (b : Int) - 1 - (m : Int) = ((b - 1 - m : Nat) : Int) by omega]
        refine ⟨p2, _, rfl, SqT.of e2, rfl, _, _, rfl, _, _, rfl, rfl, ?_⟩
        obtain ⟨w, hw⟩ := jw (i := num % 4) (Int.emod_nonneg _ (by decide)) (Int.emod_lt_of_pos _ (by decide))
        refine ⟨by decide, fun t4 n4 => ⟨_, rfl, _, _, rfl, rfl, (by show (0 : Int) < 4; decide), t4, _, _, _, rfl, rfl, SqL.of upd_same, hw, _, rfl, _, rfl, sz3, fun t nt => ⟨_, rfl, sz2, fun p np => ?_⟩⟩⟩
        have sA := (same_new (o := .lst [V.str "and", V.str "or", V.str "then", V.str "then"]) n4)
        have sB := (same_new (o := .tup [V.str w.s, v1, v2]) nt)
        have sC := (same_new (o := .tup [V.ref t, V.int j2]) np)
        refine q p _ (.ref t) (.bin w a1 a2) j2 (s1.trans (s2.trans (sA.trans (sB.trans sC)))) upd_same (.bin (.inl (.inl ?_)) ((i1.same s2).same (sA.trans (sB.trans sC))) (i2.same (sA.trans (sB.trans sC)))) ?_ ⟨l1, l2⟩
        · rw [upd_ne (ne_of_none upd_same np)]
          exact upd_same
        · show a1.joints + a2.joints + 1 = b
          omega
/-! ### _law_statement -/
def sp_law_statement (K : PySem.W.Frag) (N : Nat) : Sp := fun vs H Q _ => ∃ (c : Int) (pn : Addr) (ls : List (List Nat)) (m : Nat), vs = [.int c, .ref pn, .int m] ∧ SqL K H pn (ls.map fun l => V.str (S l)) ∧ ls.length = 4 ∧ m < N ∧ m ≤ 1000 ∧
  ∀ H' v (s : Sm), Same H H' → IsSm K H' v s → s.joints ≤ m → s.In (· ∈ ls) → Q v H'
theorem ok_law_statement (T : Txt w K mg) (c__law_row : Cl P w K mg base 1 "_law_row" (sp_law_row K)) (c_grown : ∀ n, Cl P w K mg base n "_law_grown" (sp_law_grown K n)) (N : Nat) (hN1 : 1 ≤ N) : Cl P w K mg base (N + 1) "_law_statement" (sp_law_statement K N) := by
  have c__law_grown := c_grown N
  refine T.d_law_statement.ok sc_law_statement (fun vs H Q E h => ?_) (fun f cdv A outer s H vs Q E hr h => ?_)
  · obtain ⟨c, pn, ls, m, rfl, _⟩ := h
    rfl
  · obtain ⟨c, pn, ls, m, rfl, hN, hl4, hm, hm2, q⟩ := h
    refine ⟨_, (pss_cons (ps_set (i := 3) sc_law_statement.nd rfl (Or.inl rfl) (pe_k c__law_row hr (by omega) rfl (pa_cons (pv 0) (pa_cons (pe_op op_add (pe_op op_mul pe_int (pv 2)) pe_int) pa_nil))))
    (pss_one (ps_ret (pe_ix (r := rIxT K) ix_tup (pe_k c__law_grown hr (by omega) rfl (pa_cons (pe_slice (r := rSlL K) sl_list (pv 3) (po_some pe_int) po_none) (pa_cons (pv 1) (pa_cons pe_int (pa_cons (pe_op op_mod (pe_ix (r := rIxL K) ix_list (pv 3) pe_int (fun _ _ => rfl)) (pe_op op_add (pv 2) pe_int)) pa_nil))))) pe_int (fun _ _ => rfl))))), ?_⟩
    refine ⟨_, rfl, _, rfl, _, _, rfl, rfl, .inl ⟨by decide, by decide⟩, _, _, rfl, rfl, c, 2 * m + 2, ?_, by omega, fun pr H1 row s1 np e1 hl h9 => ?_⟩
    · show [V.int c, V.int (2 * (m : Int) + 2)] = _
      rw [show 2 * (m : Int) + 2 = ((2 * m + 2 : Nat) : Int) by omega]
    obtain ⟨r0, rr, rfl⟩ : ∃ r0 rr, row = r0 :: rr := by
      cases row with
      | nil => exact absurd hl (by show ¬ (0 = 2 * m + 2); omega)
      | cons a r => exact ⟨a, r, rfl⟩
    refine ⟨_, rfl, 1, rfl, pr, _, rfl, SqL.of e1, fun pt nt => ?_⟩
    have et : (upd H1 pt (.lst (cutV ((r0 :: rr).map V.int) (some 1) none))) pt = some (.lst (rr.map V.int)) := by
      rw [upd_same, show (1 : Int) = ((1 : Nat) : Int) from rfl, cut_from]
      rfl
    have s2 : Same H1 (upd H1 pt (.lst (cutV ((r0 :: rr).map V.int) (some 1) none))) := same_new nt
    obtain ⟨b, eb, hb⟩ : ∃ b : Nat, r0 % ((m : Int) + 1) = (b : Int) ∧ b ≤ m := ⟨(r0 % ((m : Int) + 1)).toNat, by
      have h1 := Int.emod_nonneg r0 (show ((m : Int) + 1) ≠ 0 by omega)
      have h2 := Int.emod_lt_of_pos r0 (show (0 : Int) < (m : Int) + 1 by omega)
      omega⟩
    refine ⟨_, rfl, _, rfl, pr, _, _, _, rfl, rfl, SqL.of (s2 _ _ e1), at0, _, rfl, _, _, rfl, rfl, _, _, rfl, rfl, (by show (0 : Int) < (m : Int) + 1; omega), pt, pn, rr, ls, 0, b, ?_, SqL.of et, s2.seq (s1.seq hN), ?_, ?_, hl4, by omega, fun p H3 v a j s3 e3 i3 b3 l3 => ?_⟩
    · show [V.ref pt, V.ref pn, V.int 0, V.int (r0 % ((m : Int) + 1))] = _
      rw [eb]
      rfl
    · intro e
      rw [e, List.length_singleton] at hl
      omega
    · exact fun x hx => h9 x (List.mem_cons_of_mem _ hx)
    · exact ⟨p, _, _, _, rfl, rfl, SqT.of e3, at0, q H3 v a (s1.trans (s2.trans s3)) i3 (by omega) l3⟩
/-! ### _law_whole -/
def sp_law_whole (K : PySem.W.Frag) : Sp := fun vs H Q _ => ∃ i : Int, vs = [.int i] ∧ Q (.bl true) H
theorem ok_law_whole (T : Txt w K mg) : Cl P w K mg base 1 "_law_whole" (sp_law_whole K) := by
  refine T.d_law_whole.ok sc_law_whole (fun vs H Q E h => ?_) (fun f cdv A outer s H vs Q E hr h => ?_)
  · obtain ⟨i, rfl, _⟩ := h
    rfl
  · obtain ⟨i, rfl, q⟩ := h
    refine ⟨_, (pss_one (ps_ret (pe_and (pe_callB (r := rIsi K) call_isi rfl T.n_isinstance (by decide +kernel) (pa_cons (pv 0) (pa_cons (pe_bltn (v := .ty "int") rfl T.n_int (by decide +kernel) rfl) pa_nil))) (pe_one (pe_not (pe_callB (r := rIsi K) call_isi rfl T.n_isinstance (by decide +kernel) (pa_cons (pv 0) (pa_cons (pe_bltn (v := .ty "bool") rfl T.n_bool (by decide +kernel) rfl) pa_nil)))))))), ?_⟩
    refine ⟨_, rfl, _, _, .type "int", .type "int", true, rfl, .ty "int", .base (.int i), kit_ty (by decide +kernel), true, rfl, iteT ?_⟩
    exact ⟨_, rfl, _, _, .type "int", .type "bool", false, rfl, .ty "bool", .base (.int i), kit_ty (by decide +kernel), false, rfl, q⟩
/-! ### _law_counted -/
def sp_law_counted (K : PySem.W.Frag) : Sp := fun vs H Q _ => ∃ (v : V) (s : Sm), vs = [v] ∧ IsSm K H v s ∧ s.size ≤ 10000 ∧ s.In Ch ∧
  ∀ p H', Same H H' → H' p = some (.tup [.int s.joints, .int (s.kn false)]) → Q (.ref p) H'
theorem ok_law_counted (T : Txt w K mg) : Cl P w K mg base 1 "_law_counted" (sp_law_counted K) := by
  refine T.d_law_counted.ok sc_law_counted (fun vs H Q E h => ?_) (fun f cdv A outer s H vs Q E hr h => ?_)
  · obtain ⟨v, s, rfl, _⟩ := h
    rfl
  · obtain ⟨v, a, rfl, hs, hz, hch, q⟩ := h
    refine ⟨_, (pss_cons (ps_set (i := 1) sc_law_counted.nd rfl (Or.inl rfl) pe_int)
    (pss_cons (ps_set (i := 2) sc_law_counted.nd rfl (Or.inl rfl) pe_int)
    (pss_cons (ps_set (i := 3) sc_law_counted.nd rfl (Or.inl rfl) (pe_lst (pa_cons (pe_tup (pa_cons (pv 0) (pa_cons pe_bl pa_nil))) pa_nil)))
    (pss_cons (ps_while PassesOwn.never (pt_cmpR (r := rNeE K) (op_neE hr.units) (pv 3) (pe_lst pa_nil) (nomark _))
      (pss_cons (ps_asg (pe_bm0 PySem.F.plainAttrs_list PySem.F.slot_list_pop PySem.F.type_list_pop mt_pop (pv 3)) (pg_tup rfl (pgs_cons (pg_name (i := 4) sc_law_counted.nd rfl (Or.inl rfl)) (pgs_cons (pg_name (i := 5) sc_law_counted.nd rfl (Or.inl rfl)) pgs_nil))))
        (pss_one (ps_if (pt_cmpR op_eq (pe_callB (r := rLenK K) call_len_seq rfl T.n_len (by decide +kernel) (pa_cons (pv 4) pa_nil)) pe_int (nomark _))
          (pss_cons (ps_set (i := 1) sc_law_counted.nd rfl (Or.inl rfl) (pe_op op_add (pv 1) pe_int))
            (pss_cutO (ps_if (PW.pt (pw_or (pt_cmpR op_eq (pe_ix (r := rIxT K) ix_tup (pv 4) pe_int (fun _ _ => rfl)) pe_str (nomark _)) (pw_or1 (PW.pt (pw_and (pt_cmpR op_eq (pe_ix (r := rIxT K) ix_tup (pv 4) pe_int (fun _ _ => rfl)) pe_str (nomark _)) (pw_and1 (pt_val (pv 5))))))))
              (pss_one (ps_set (i := 2) sc_law_counted.nd rfl (Or.inl rfl) (pe_op op_add (pv 2) pe_int)))
              pss_nil)
            (pss_cons (ps_expr (pe_bm PySem.F.plainAttrs_list PySem.F.slot_list_append PySem.F.type_list_append mt_append (pv 3) (pa_cons (pe_tup (pa_cons (pe_ix (r := rIxT K) ix_tup (pv 4) pe_int (fun _ _ => rfl)) (pa_cons (pe_or (pv 5) (pe_one (pe_cmpR op_eq (pe_ix (r := rIxT K) ix_tup (pv 4) pe_int (fun _ _ => rfl)) pe_str (nomark _)))) pa_nil))) pa_nil)))
            (pss_one (ps_expr (pe_bm PySem.F.plainAttrs_list PySem.F.slot_list_append PySem.F.type_list_append mt_append (pv 3) (pa_cons (pe_tup (pa_cons (pe_ix (r := rIxT K) ix_tup (pv 4) pe_int (fun _ _ => rfl)) (pa_cons (pv 5) pa_nil))) pa_nil)))))))
          pss_nil))))
    (pss_one (ps_ret (pe_tup (pa_cons (pv 1) (pa_cons (pv 2) pa_nil))))))))), ?_⟩
    refine ⟨_, rfl, sz2, fun p0 np0 => ⟨sz1, fun k nk => ?_⟩⟩
    have nk0 : H k = none := (same_new np0).free nk
    refine ⟨fun m σ H3 => ∃ (mn tn : Nat) (ws : List V) (st : List (Sm × Bool)) (y4 y5 : Option V), σ = [some v, some (.int mn), some (.int tn), some (.ref k), y4, y5] ∧ H3 k = some (.lst ws.reverse) ∧ Paired (WP K H H3) ws st ∧ a.joints = mn + jns st ∧ a.kn false = tn + kns st ∧ szs st ≤ 10000 ∧ (∀ p ∈ st, p.1.In Ch) ∧ Same H H3 ∧ m = szs st, ⟨_, 0, 0, [.ref p0], [(a, false)], none, none, rfl, upd_same, .cons ⟨p0, v, rfl, .inl (.inl (by rw [upd_ne (ne_of_none upd_same nk)]; exact upd_same)), hs⟩ .nil, ?_, ?_, hz, fun p hp => by rw [List.mem_singleton.mp hp]; exact hch, (same_new np0).trans (same_new nk), rfl⟩, ?_⟩
    · show a.joints = 0 + (a.joints + 0)
      omega
    · show a.kn false = 0 + (a.kn false + 0)
      omega
    · rintro m σ H3 ⟨mn, tn, ws, st, y4, y5, rfl, hk, pw, ej, ek, hz3, hc3, sm, rfl⟩
      refine ne_nil (vl_var rfl) (SqL.of hk) (dpAll_rev (dpAll_of (fun _ _ h => h.dp sm) pw)) (fun d hd => ?_) (fun pe npe => ⟨_, rfl, ?_⟩)
      · obtain ⟨p, hp, rfl⟩ := List.mem_map.mp (List.mem_reverse.mp hd)
        exact wpd_lay (hc3 p hp)
      have hkE : (upd H3 pe (.lst [])) k = some (.lst ws.reverse) := by
        rw [upd_ne (ne_of_none hk npe)]
        exact hk
      have tkE : TK K H3 (upd H3 pe (.lst [])) := TK.new npe
      have smE : Same H (upd H3 pe (.lst [])) := sm.trans (same_new npe)
      generalize upd H3 pe (.lst []) = HE at hkE tkE smE ⊢
      cases pw with
      | nil =>
        refine iteF ⟨_, rfl, _, rfl, sz2, fun p np => ?_⟩
        have e : mn = a.joints := ej.symm
        have e2 : tn = a.kn false := ek.symm
        rw [e, e2]
        exact q p _ (smE.trans (same_new np)) upd_same
      | @cons x pc ws st hx pw =>
        obtain ⟨t, c⟩ := pc
        rw [emp_rev]
        refine iteT ⟨fun σ' H' => ∃ (mn tn : Nat) (ws : List V) (st' : List (Sm × Bool)) (y4 y5 : Option V), σ' = [some v, some (.int mn), some (.int tn), some (.ref k), y4, y5] ∧ H' k = some (.lst ws.reverse) ∧ Paired (WP K H H') ws st' ∧ a.joints = mn + jns st' ∧ a.kn false = tn + kns st' ∧ szs st' ≤ 10000 ∧ (∀ p ∈ st', p.1.In Ch) ∧ Same H H' ∧ szs st' < szs ((t, c) :: st), fun σ' H' ⟨mn, tn, ws, st', y4, y5, e1, e2, e3, e4, e5, e6, e7, e8, e9⟩ => ⟨_, e9, mn, tn, ws, st', y4, y5, e1, e2, e3, e4, e5, e6, e7, e8, rfl⟩, ?_⟩
        have hct : t.In Ch := hc3 _ (List.mem_cons_self ..)
        have hcs : ∀ p ∈ st, p.1.In Ch := fun p hp => hc3 p (List.mem_cons_of_mem _ hp)
        obtain ⟨ap, xv, rfl, hT, hsx⟩ := hx
        refine ⟨_, rfl, tyL hkE, k, _, _, rfl, rfl, hkE, last_rev, ?_⟩
        rw [drop_rev]
        have tk1 : TK K H3 (upd HE k (.lst ws.reverse)) := tkE.trans (TK.lst hkE)
        have sm1 : Same H (upd HE k (.lst ws.reverse)) := same_put smE nk0
        have hk1 : (upd HE k (.lst ws.reverse)) k = some (.lst ws.reverse) := upd_same
        have pw1 : Paired (WP K H (upd HE k (.lst ws.reverse))) ws st := pair_map (fun _ _ h => h.tk tk1) pw
        have hT1 := tk1 _ _ hT
        generalize upd HE k (.lst ws.reverse) = H4 at tk1 sm1 hk1 pw1 hT1 ⊢
        refine ⟨ap, _, rfl, hT1, rfl, _, _, rfl, _, _, rfl, rfl, ?_⟩
        rw [szs_cons] at hz3 ⊢
        rw [kns_cons] at ek
        rw [jns_cons] at ej
        have tp := t.size_pos
        have wl : ws.length ≤ 10000 := by
          have h1 := pair_len pw
          have h2 := szs_len st
          omega
        cases hsx with
        | lt hX =>
          refine ⟨_, rfl, _, _, rfl, .inr (seqT sm1 hX), rfl, _, rfl, ?_⟩
          refine iteF ⟨mn, tn, ws, st, _, _, rfl, hk1, pw1, ?_, ?_, by omega, hcs, sm1, by show szs st < 1 + szs st; omega⟩
          · rw [ej]
            show mn + (0 + jns st) = mn + jns st
            omega
          · rw [ek]
            show tn + (0 + kns st) = tn + kns st
            omega
        | nv hX =>
          refine ⟨_, rfl, _, _, rfl, .inr (seqT sm1 hX), rfl, _, rfl, ?_⟩
          refine iteF ⟨mn, tn, ws, st, _, _, rfl, hk1, pw1, ?_, ?_, by omega, hcs, sm1, by show szs st < 1 + szs st; omega⟩
          · rw [ej]
            show mn + (0 + jns st) = mn + jns st
            omega
          · rw [ek]
            show tn + (0 + kns st) = tn + kns st
            omega
        | @bin ax w' l r sl sr hX hl hr' =>
          have hX1 := seqT sm1 hX
          refine ⟨_, rfl, _, _, rfl, .inr hX1, rfl, _, rfl, ?_⟩
          refine iteT ⟨_, rfl, _, _, rfl, rfl, ?_⟩
          -- if one[0] == 'or' or (one[0] == 'then' and inner)
          refine ⟨fun σ' H' => ∃ tn' : Nat, tn' = tn + (if w' = .or ∨ (w' = .thn ∧ c = true) then 1 else 0) ∧ σ' = [some v, some (.int ((mn : Int) + 1)), some (.int tn'), some (.ref k), some (.ref ax), some (.bl c)] ∧ H4 = H', ?_, fun σ' H' h1 => ?_⟩
          · have hw : Vl (tOp (rIxT K) (tVar 4) (tC (.int 0))) [some v, some (.int ((mn : Int) + 1)), some (.int tn), some (.ref k), some (.ref ax), some (.bl c)] H4 (.str w'.s) := vl_ixT (vl_var rfl) vl_c hX1 at0
            have hc := an_or (an_test (vl_eq hw (vl_c (v := .str "or")) rfl)) (an_and (an_test (vl_eq hw (vl_c (v := .str "then")) rfl)) (an_val (vl_var (i := 5) (v := .bl c) rfl)))
            refine hc _ (ite2 (fun hb => ?_) (fun hb => ?_))
            · have e1 := j_eq w' .or
              have e2 := j_eq w' .thn
              have hb' : (decide (w' = .or) || (decide (w' = .thn) && c)) = true := by
                rw [← e1, ← e2]
                exact hb
              refine ⟨_, rfl, _, _, rfl, rfl, tn + 1, ?_, rfl, rfl⟩
              rw [if_pos (by simpa using hb')]
            · have e1 := j_eq w' .or
              have e2 := j_eq w' .thn
              have hb' : ¬ (decide (w' = .or) || (decide (w' = .thn) && c)) = true := by
                rw [← e1, ← e2]
                exact hb
              refine ⟨tn, ?_, rfl, rfl⟩
              rw [if_neg (by simpa using hb')]
              exact (Nat.add_zero _).symm
          · obtain ⟨tn', em, rfl, rfl⟩ := h1
            have hw : Vl (tOp (rIxT K) (tVar 4) (tC (.int 0))) [some v, some (.int ((mn : Int) + 1)), some (.int tn'), some (.ref k), some (.ref ax), some (.bl c)] H4 (.str w'.s) := vl_ixT (vl_var rfl) vl_c hX1 at0
            have hflag := vl_orV (vl_var (i := 5) (v := .bl c) rfl) (vl_eq hw (vl_c (v := .str "then")) rfl)
            refine ⟨_, rfl, tyL hk1, _, rfl, ax, _, _, l, rfl, rfl, hX1, at1, hflag _ ?_⟩
            rw [show decide (V.str w'.s = V.str "then") = decide (w' = .thn) from j_eq w' .thn]
            refine ⟨sz2, fun p1 np1 => ⟨k, ws.reverse, _, rfl, rfl, ?_, ?_, ?_⟩⟩
            · rw [upd_ne (ne_of_none hk1 np1)]
              exact hk1
            · rw [List.length_reverse]
              exact small (by omega)
            rw [add_rev]
            have nkp : p1 ≠ k := (ne_of_none hk1 np1).symm
            have hk5 : (upd H4 p1 (.tup [l, .bl (c || decide (w' = .thn))])) k = some (.lst ws.reverse) := by
              rw [upd_ne nkp.symm]
              exact hk1
            have tk2 : TK K H4 (upd (upd H4 p1 (.tup [l, .bl (c || decide (w' = .thn))])) k (.lst (V.ref p1 :: ws).reverse)) := (TK.new np1).trans (TK.lst hk5)
            have sm2 : Same H (upd (upd H4 p1 (.tup [l, .bl (c || decide (w' = .thn))])) k (.lst (V.ref p1 :: ws).reverse)) := same_put (sm1.trans (same_new np1)) nk0
            have hk2 : (upd (upd H4 p1 (.tup [l, .bl (c || decide (w' = .thn))])) k (.lst (V.ref p1 :: ws).reverse)) k = some (.lst (V.ref p1 :: ws).reverse) := upd_same
            have hp1 : SqT K (upd (upd H4 p1 (.tup [l, .bl (c || decide (w' = .thn))])) k (.lst (V.ref p1 :: ws).reverse)) p1 [l, .bl (c || decide (w' = .thn))] := .inl (.inl (by rw [upd_ne nkp]; exact upd_same))
            generalize upd (upd H4 p1 (.tup [l, .bl (c || decide (w' = .thn))])) k (.lst (V.ref p1 :: ws).reverse) = H5 at tk2 sm2 hk2 hp1 ⊢
            refine ⟨_, rfl, tyL hk2, _, rfl, ax, _, _, r, rfl, rfl, seqT sm2 hX, at2, _, rfl, sz2, fun p2 np2 => ⟨k, (V.ref p1 :: ws).reverse, _, rfl, rfl, ?_, ?_, ?_⟩⟩
            · rw [upd_ne (ne_of_none hk2 np2)]
              exact hk2
            · rw [List.length_reverse, List.length_cons]
              exact small (by omega)
            rw [add_rev]
            have nkp2 : p2 ≠ k := (ne_of_none hk2 np2).symm
            have hk6 : (upd H5 p2 (.tup [r, .bl c])) k = some (.lst (V.ref p1 :: ws).reverse) := by
              rw [upd_ne nkp2.symm]
              exact hk2
            have tk3 : TK K H5 (upd (upd H5 p2 (.tup [r, .bl c])) k (.lst (V.ref p2 :: V.ref p1 :: ws).reverse)) := (TK.new np2).trans (TK.lst hk6)
            refine ⟨mn + 1, tn', .ref p2 :: .ref p1 :: ws, (sr, c) :: (sl, c || decide (w' = .thn)) :: st, _, _, rfl, upd_same, .cons ⟨p2, r, rfl, .inl (.inl (by rw [upd_ne nkp2]; exact upd_same)), hr'⟩ (.cons ⟨p1, l, rfl, tk3 _ _ hp1, hl⟩ (pair_map (fun _ _ h => h.tk (tk2.trans tk3)) pw1)), ?_, ?_, ?_, ?_, same_put (sm2.trans (same_new np2)) nk0, ?_⟩
            · rw [ej, jns_cons, jns_cons]
              show mn + ((sl.joints + sr.joints + 1) + jns st) = mn + 1 + (sr.joints + (sl.joints + jns st))
              omega
            · rw [ek, em, kns_cons, kns_cons]
              show tn + (((if w' = .or ∨ (w' = .thn ∧ c = true) then 1 else 0) + sl.kn (c || decide (w' = .thn)) + sr.kn c) + kns st) = tn + (if w' = .or ∨ (w' = .thn ∧ c = true) then 1 else 0) + (sr.kn c + (sl.kn (c || decide (w' = .thn)) + kns st))
              omega
            · rw [szs_cons, szs_cons]
              show sr.size + (sl.size + szs st) ≤ 10000
              have hz4 : (sl.size + sr.size + 1) + szs st ≤ 10000 := hz3
              omega
            · intro p hp
              rcases List.mem_cons.mp hp with rfl | hp
              · exact hct.2
              rcases List.mem_cons.mp hp with rfl | hp
              · exact hct.1
              · exact hcs p hp
            · rw [szs_cons, szs_cons]
              show sr.size + (sl.size + szs st) < (sl.size + sr.size + 1) + szs st
              omega
/-! ### law -/
def sp_law (K : PySem.W.Frag) : Sp := fun vs H Q _ => ∃ (a : Addr) (ns : List Int), vs = [.ref a] ∧ SqL K H a (ns.map V.int) ∧ ns.length ≤ 63 ∧ ∀ H', Q (.bl true) H'
theorem ok_law (T : Txt w K mg) (c__law_cell : Cl P w K mg base 1 "_law_cell" (sp_law_cell K)) (c__law_names : Cl P w K mg base 2 "_law_names" (sp_law_names K)) (c__law_statement : Cl P w K mg base 26 "_law_statement" (sp_law_statement K 25)) (c__law_counted : Cl P w K mg base 1 "_law_counted" (sp_law_counted K)) (c__law_whole : Cl P w K mg base 1 "_law_whole" (sp_law_whole K)) (c_joints : Cl P w K mg base 2 "joints" (sp_joints K)) (c_knots : Cl P w K mg base 1 "knots" (sp_knots K))
    {f : Addr} {fd : FuncData} (F : Fun K "law" "law" s_law f fd) : FnOk P w K mg base CX0 27 f fd ["_law_script"] (sp_law K) := by
  refine F.ok sc_law (fun vs H Q E h => ?_) (fun cdv A outer s H vs Q E hr h => ?_)
  · obtain ⟨a, ns, rfl, _⟩ := h
    rfl
  · obtain ⟨a, ns, rfl, hS, hlen, q⟩ := h
    refine ⟨_, (pss_cons (ps_set (i := 1) sc_law.nd rfl (Or.inl rfl) (pe_k c__law_names hr (by omega) rfl (pa_cons (pe_k c__law_cell hr (by omega) rfl (pa_cons (pv 0) (pa_cons pe_int pa_nil))) pa_nil)))
    (pss_cons (ps_set (i := 2) sc_law.nd rfl (Or.inl rfl) (pe_slice (r := rSlL K) sl_list (pv 0) (po_some pe_int) (po_some pe_int)))
    (pss_cutO (ps_if (pt_cmpR (r := rEqE K) (op_eqE hr.units) (pv 2) (pe_lst pa_nil) (nomark _))
      (pss_one (ps_set (i := 2) sc_law.nd rfl (Or.inl rfl) (pe_lst (pa_cons pe_int (pa_cons pe_int pa_nil)))))
      pss_nil)
    (pss_cons (ps_for PassesOwn.never rfl (pi_listK (K := K) (pv 2)) (pg_name (i := 3) sc_law.nd rfl (Or.inl rfl))
      (pss_cons (ps_set (i := 4) sc_law.nd rfl (Or.inl rfl) (pe_k c__law_statement hr (by omega) rfl (pa_cons (pv 3) (pa_cons (pv 1) (pa_cons pe_int pa_nil)))))
        (pss_cons (ps_asg (pe_k c__law_counted hr (by omega) rfl (pa_cons (pv 4) pa_nil)) (pg_tup rfl (pgs_cons (pg_name (i := 5) sc_law.nd rfl (Or.inl rfl)) (pgs_cons (pg_name (i := 6) sc_law.nd rfl (Or.inl rfl)) pgs_nil))))
        (pss_cutO (ps_if (PW.pt (pw_or (pt_not (pt_val (pe_k c__law_whole hr (by omega) rfl (pa_cons (pe_k c_joints hr (by omega) rfl (pa_cons (pv 4) pa_nil)) pa_nil)))) (pw_or1 (pt_not (pt_val (pe_k c__law_whole hr (by omega) rfl (pa_cons (pe_k c_knots hr (by omega) rfl (pa_cons (pv 4) pa_nil)) pa_nil)))))))
          (pss_one (ps_ret pe_bl))
          pss_nil)
        (pss_one (ps_if (PW.pt (pw_or (pt_cmpR op_ne (pe_k c_joints hr (by omega) rfl (pa_cons (pv 4) pa_nil)) (pv 5) (nomark _)) (pw_or1 (pt_cmpR op_ne (pe_k c_knots hr (by omega) rfl (pa_cons (pv 4) pa_nil)) (pv 6) (nomark _)))))
          (pss_one (ps_ret pe_bl))
          pss_nil))))))
    (pss_one (ps_ret pe_bl)))))), ?_⟩
    refine ⟨_, rfl, a, ns, 0, rfl, hS, fun i => ⟨i, rfl, fun pn H1 ls s1 np e1 l4 hnm => ?_⟩⟩
    have hS1 := s1.seq hS
    refine ⟨_, rfl, 1, rfl, 13, rfl, a, _, rfl, hS1, fun pc npc => ?_⟩
    have ec : cutV (ns.map V.int) (some 1) (some 13) = ((ns.drop 1).take 12).map V.int := by
      rw [show cutV (ns.map V.int) (some 1) (some 13) = ((ns.map V.int).drop 1).take (13 - 1) from cut_nat _ 1 13, List.map_take, List.map_drop]
    have hpc : (upd H1 pc (.lst (cutV (ns.map V.int) (some 1) (some 13)))) pc = some (.lst (((ns.drop 1).take 12).map V.int)) := by
      rw [upd_same, ec]
    have s2 : Same H1 (upd H1 pc (.lst (cutV (ns.map V.int) (some 1) (some 13)))) := same_new npc
    generalize upd H1 pc (.lst (cutV (ns.map V.int) (some 1) (some 13))) = H2 at hpc s2 ⊢
    -- if cells == []
    refine ⟨fun σ' H' => ∃ (pc : Addr) (cs : List Int), σ' = [some (.ref a), some (.ref pn), some (.ref pc), none, none, none, none] ∧ H' pc = some (.lst (cs.map V.int)) ∧ Same H1 H', ?_, fun σ' H' h1 => ?_⟩
    · refine eq_nil (vl_var rfl) (SqL.of hpc) (dpAll_ints _) (lay_ints _) (fun p np => ⟨_, rfl, ite2 (fun _ => ?_) (fun _ => ?_)⟩)
      · exact ⟨sz2, fun p2 np2 => ⟨p2, [5, 17], rfl, upd_same, s2.trans ((same_new np).trans (same_new np2))⟩⟩
      · exact ⟨pc, _, rfl, by rw [upd_ne (ne_of_none hpc np)]; exact hpc, s2.trans (same_new np)⟩
    · obtain ⟨pc, cs, rfl, hpc, s3⟩ := h1
      refine ⟨_, rfl, pc, rfl, ⟨_, SqL.of hpc⟩, for_list (K := K) (a := pc) (xs := cs.map V.int) (fun i σ H3 => ∃ y3 y4 y5 y6 : Option V, σ = [some (.ref a), some (.ref pn), some (.ref pc), y3, y4, y5, y6] ∧ Same H' H3) ?_ ?_ ?_ ?_⟩
      · exact ⟨_, _, _, _, rfl, Same.refl _⟩
      · rintro i σ H3 _ ⟨_, _, _, _, _, s4⟩
        exact SqL.of (s4 _ _ hpc)
      · rintro i x σ H3 hx ⟨y3, y4, y5, y6, rfl, s4⟩
        rw [List.getElem?_map] at hx
        obtain ⟨z, _, rfl⟩ := Option.map_eq_some_iff.mp hx
        refine ⟨_, rfl, _, rfl, z, pn, ls, 24, rfl, SqL.of (s4 _ _ (s3 _ _ e1)), l4, by decide, by decide, fun H4 v t s5 is hj hin => ?_⟩
        have hch : t.In Ch := Sm.In.imp (fun l hl => (hnm l hl).ch) hin
        have hsz : t.size ≤ 10000 := by
          rw [t.size_joints]
          omega
        refine ⟨_, rfl, v, t, rfl, is, hsz, hch, fun p H5 s6 e5 => ?_⟩
        refine ⟨p, _, rfl, SqT.of e5, rfl, _, _, rfl, _, _, rfl, rfl, ?_⟩
        have is5 := is.same s6
        refine ⟨fun σ' H' => σ' = [some (.ref a), some (.ref pn), some (.ref pc), some (.int z), some v, some (.int t.joints), some (.int (t.kn false))] ∧ Same H5 H', ?_, fun σ' H6 h1 => ?_⟩
        · refine ⟨_, rfl, v, t, rfl, is5, hsz, fun H6 s7 => ⟨_, rfl, true, rfl, iteF ⟨_, rfl, v, t, rfl, is5.same s7, hsz, fun H7 s8 => ⟨_, rfl, true, rfl, iteF ⟨rfl, s7.trans s8⟩⟩⟩⟩⟩
        · obtain ⟨rfl, s7⟩ := h1
          have is6 := is5.same s7
          refine ⟨_, rfl, v, t, rfl, is6, hsz, fun H7 s8 => ⟨_, rfl, rfl, _, rfl, ?_⟩⟩
          rw [decide_eq_true rfl]
          refine iteF ⟨_, rfl, v, t, rfl, is6.same s8, hsz, fun H8 s9 => ⟨_, rfl, rfl, _, rfl, ?_⟩⟩
          rw [decide_eq_true rfl]
          refine iteF ⟨_, _, _, _, rfl, ?_⟩
          exact s4.trans (s5.trans (s6.trans (s7.trans (s8.trans s9))))
      · rintro σ H3 ⟨y3, y4, y5, y6, rfl, s4⟩
        exact q H3
end
theorem all_law {P : Program} {w : World} {K : PySem.W.Frag} {mg : Str → Option Value} (T : Txt w K mg) {f : Addr} {fd : FuncData} (F : Fun K "law" "law" s_law f fd) (base : Heap) :
    FnOk P w K mg base CX0 27 f fd ["_law_script"] (sp_law K) := by
  have c__standing := ok_standing (P := P) (w := w) (base := base) T
  have c_joints := ok_joints (P := P) (w := w) (base := base) T c__standing
  have c_knots := ok_knots (P := P) (w := w) (base := base) T
  have c__law_cell := ok_law_cell (P := P) (w := w) (base := base) T
  have c__law_row := ok_law_row (P := P) (w := w) (base := base) T
  have c__law_names := ok_law_names (P := P) (w := w) (base := base) T c__law_row
  have c__law_grown := ok_law_grown (P := P) (w := w) (base := base) T
  have c__law_statement := ok_law_statement (P := P) (w := w) (base := base) T c__law_row c__law_grown 25 (by decide)
  have c__law_whole := ok_law_whole (P := P) (w := w) (base := base) T
  have c__law_counted := ok_law_counted (P := P) (w := w) (base := base) T
  exact ok_law T c__law_cell c__law_names c__law_statement c__law_counted c__law_whole c_joints c_knots F
theorem all_mk {l : PySem.W.OpenLaw} {w : World} {K : PySem.W.Frag} {h : Heap} {mg : Str → Option Value} {fa f0 f1 f2 f3 f4 f5 f6 f7 f8 f9 f10 : Addr} (X : K.In h) (G : h.Ns mainGlobals mg) (hfa : mg "law" = some (.ref fa))
    {od0 an0 od1 an1 od2 an2 od3 an3 od4 an4 od5 an5 od6 an6 od7 an7 od8 an8 od9 an9 od10 an10 : Option Addr} {sl0 sl1 sl2 sl3 sl4 sl5 sl6 sl7 sl8 sl9 sl10 : Array (Option Value)} {oc0 kV0 dc0 pm0 cd0 ct0 oc1 kV1 dc1 pm1 cd1 ct1 oc2 kV2 dc2 pm2 cd2 ct2 oc3 kV3 dc3 pm3 cd3 ct3 oc4 kV4 dc4 pm4 cd4 ct4 oc5 kV5 dc5 pm5 cd5 ct5 oc6 kV6 dc6 pm6 cd6 ct6 oc7 kV7 dc7 pm7 cd7 ct7 oc8 kV8 dc8 pm8 cd8 ct8 oc9 kV9 dc9 pm9 cd9 ct9 oc10 kV10 dc10 pm10 cd10 ct10 : Value}
    (a0 : PySem.W.nsIn K mainGlobals "_standing" = some (some (.ref f0))) (l0 : K.lookup f0 = some ⟨oc0, od0, .func (PySem.W.fnOf "_standing" "_standing" (defArgs s_standing) (defBody s_standing) (defScope s_standing) .none kV0 dc0 pm0 an0 cd0 ct0), sl0⟩) (c0 : PySem.W.codeIn K cd0 "_standing" = true) (k0 : PySem.W.keepIn K (.ref f0) = true)
    (a1 : PySem.W.nsIn K mainGlobals "joints" = some (some (.ref f1))) (l1 : K.lookup f1 = some ⟨oc1, od1, .func (PySem.W.fnOf "joints" "joints" (defArgs s_joints) (defBody s_joints) (defScope s_joints) .none kV1 dc1 pm1 an1 cd1 ct1), sl1⟩) (c1 : PySem.W.codeIn K cd1 "joints" = true) (k1 : PySem.W.keepIn K (.ref f1) = true)
    (a2 : PySem.W.nsIn K mainGlobals "knots" = some (some (.ref f2))) (l2 : K.lookup f2 = some ⟨oc2, od2, .func (PySem.W.fnOf "knots" "knots" (defArgs s_knots) (defBody s_knots) (defScope s_knots) .none kV2 dc2 pm2 an2 cd2 ct2), sl2⟩) (c2 : PySem.W.codeIn K cd2 "knots" = true) (k2 : PySem.W.keepIn K (.ref f2) = true)
    (a3 : PySem.W.nsIn K mainGlobals "_law_cell" = some (some (.ref f3))) (l3 : K.lookup f3 = some ⟨oc3, od3, .func (PySem.W.fnOf "_law_cell" "_law_cell" (defArgs s_law_cell) (defBody s_law_cell) (defScope s_law_cell) .none kV3 dc3 pm3 an3 cd3 ct3), sl3⟩) (c3 : PySem.W.codeIn K cd3 "_law_cell" = true) (k3 : PySem.W.keepIn K (.ref f3) = true)
    (a4 : PySem.W.nsIn K mainGlobals "_law_row" = some (some (.ref f4))) (l4 : K.lookup f4 = some ⟨oc4, od4, .func (PySem.W.fnOf "_law_row" "_law_row" (defArgs s_law_row) (defBody s_law_row) (defScope s_law_row) .none kV4 dc4 pm4 an4 cd4 ct4), sl4⟩) (c4 : PySem.W.codeIn K cd4 "_law_row" = true) (k4 : PySem.W.keepIn K (.ref f4) = true)
    (a5 : PySem.W.nsIn K mainGlobals "_law_names" = some (some (.ref f5))) (l5 : K.lookup f5 = some ⟨oc5, od5, .func (PySem.W.fnOf "_law_names" "_law_names" (defArgs s_law_names) (defBody s_law_names) (defScope s_law_names) .none kV5 dc5 pm5 an5 cd5 ct5), sl5⟩) (c5 : PySem.W.codeIn K cd5 "_law_names" = true) (k5 : PySem.W.keepIn K (.ref f5) = true)
    (a6 : PySem.W.nsIn K mainGlobals "_law_grown" = some (some (.ref f6))) (l6 : K.lookup f6 = some ⟨oc6, od6, .func (PySem.W.fnOf "_law_grown" "_law_grown" (defArgs s_law_grown) (defBody s_law_grown) (defScope s_law_grown) .none kV6 dc6 pm6 an6 cd6 ct6), sl6⟩) (c6 : PySem.W.codeIn K cd6 "_law_grown" = true) (k6 : PySem.W.keepIn K (.ref f6) = true)
    (a7 : PySem.W.nsIn K mainGlobals "_law_statement" = some (some (.ref f7))) (l7 : K.lookup f7 = some ⟨oc7, od7, .func (PySem.W.fnOf "_law_statement" "_law_statement" (defArgs s_law_statement) (defBody s_law_statement) (defScope s_law_statement) .none kV7 dc7 pm7 an7 cd7 ct7), sl7⟩) (c7 : PySem.W.codeIn K cd7 "_law_statement" = true) (k7 : PySem.W.keepIn K (.ref f7) = true)
    (a8 : PySem.W.nsIn K mainGlobals "_law_whole" = some (some (.ref f8))) (l8 : K.lookup f8 = some ⟨oc8, od8, .func (PySem.W.fnOf "_law_whole" "_law_whole" (defArgs s_law_whole) (defBody s_law_whole) (defScope s_law_whole) .none kV8 dc8 pm8 an8 cd8 ct8), sl8⟩) (c8 : PySem.W.codeIn K cd8 "_law_whole" = true) (k8 : PySem.W.keepIn K (.ref f8) = true)
    (a9 : PySem.W.nsIn K mainGlobals "_law_counted" = some (some (.ref f9))) (l9 : K.lookup f9 = some ⟨oc9, od9, .func (PySem.W.fnOf "_law_counted" "_law_counted" (defArgs s_law_counted) (defBody s_law_counted) (defScope s_law_counted) .none kV9 dc9 pm9 an9 cd9 ct9), sl9⟩) (c9 : PySem.W.codeIn K cd9 "_law_counted" = true) (k9 : PySem.W.keepIn K (.ref f9) = true)
    (a10 : PySem.W.nsIn K mainGlobals "law" = some (some (.ref f10))) (l10 : K.lookup f10 = some ⟨oc10, od10, .func (PySem.W.fnOf "law" "law" (defArgs s_law) (defBody s_law) (defScope s_law) .none kV10 dc10 pm10 an10 cd10 ct10), sl10⟩) (c10 : PySem.W.codeIn K cd10 "law" = true) (k10 : PySem.W.keepIn K (.ref f10) = true)
    (z0 : PySem.W.nsIn K mainGlobals "bool" = some none)
    (z1 : PySem.W.nsIn K mainGlobals "int" = some none)
    (z2 : PySem.W.nsIn K mainGlobals "isinstance" = some none)
    (z3 : PySem.W.nsIn K mainGlobals "len" = some none)
    (z4 : PySem.W.nsIn K mainGlobals "range" = some none)
    : ∃ fd : FuncData, (∀ (s : Shared) (v : Value), BindsTo s fd ⟨[v], []⟩ [("_law_script", v)]) ∧ ∀ base : Heap, K.In base → base.Ns mainGlobals mg → FnOk l.prog w K mg base CX0 27 fa fd ["_law_script"] (sp_law K) := by
  have F0 := fun_mk (st := s_standing) l0 c0 k0
  have b0 := F0.binds (ps := ["a"]) fun _ _ _ _ _ _ us hl => match us, hl with | [_], _ => rfl
  have F1 := fun_mk (st := s_joints) l1 c1 k1
  have b1 := F1.binds (ps := ["a"]) fun _ _ _ _ _ _ us hl => match us, hl with | [_], _ => rfl
  have F2 := fun_mk (st := s_knots) l2 c2 k2
  have b2 := F2.binds (ps := ["a"]) fun _ _ _ _ _ _ us hl => match us, hl with | [_], _ => rfl
  have F3 := fun_mk (st := s_law_cell) l3 c3 k3
  have b3 := F3.binds (ps := ["_law_script", "_law_k"]) fun _ _ _ _ _ _ us hl => match us, hl with | [_, _], _ => rfl
  have F4 := fun_mk (st := s_law_row) l4 c4 k4
  have b4 := F4.binds (ps := ["_law_cell_here", "_law_many"]) fun _ _ _ _ _ _ us hl => match us, hl with | [_, _], _ => rfl
  have F5 := fun_mk (st := s_law_names) l5 c5 k5
  have b5 := F5.binds (ps := ["_law_cell_here"]) fun _ _ _ _ _ _ us hl => match us, hl with | [_], _ => rfl
  have F6 := fun_mk (st := s_law_grown) l6 c6 k6
  have b6 := F6.binds (ps := ["_law_row_here", "_law_names_here", "_law_at", "_law_budget"]) fun _ _ _ _ _ _ us hl => match us, hl with | [_, _, _, _], _ => rfl
  have F7 := fun_mk (st := s_law_statement) l7 c7 k7
  have b7 := F7.binds (ps := ["_law_cell_here", "_law_names_here", "_law_most"]) fun _ _ _ _ _ _ us hl => match us, hl with | [_, _, _], _ => rfl
  have F8 := fun_mk (st := s_law_whole) l8 c8 k8
  have b8 := F8.binds (ps := ["_law_found"]) fun _ _ _ _ _ _ us hl => match us, hl with | [_], _ => rfl
  have F9 := fun_mk (st := s_law_counted) l9 c9 k9
  have b9 := F9.binds (ps := ["_law_a"]) fun _ _ _ _ _ _ us hl => match us, hl with | [_], _ => rfl
  have F10 := fun_mk (st := s_law) l10 c10 k10
  have b10 := F10.binds (ps := ["_law_script"]) fun _ _ _ _ _ _ us hl => match us, hl with | [_], _ => rfl
  have T : Txt w K mg := {
    n_bool := PySem.W.mg_none_of X G z0,
    n_int := PySem.W.mg_none_of X G z1,
    n_isinstance := PySem.W.mg_none_of X G z2,
    n_len := PySem.W.mg_none_of X G z3,
    n_range := PySem.W.mg_none_of X G z4,
    d_standing := ⟨_, _, F0, PySem.W.mg_of X G a0, b0⟩,
    d_joints := ⟨_, _, F1, PySem.W.mg_of X G a1, b1⟩,
    d_knots := ⟨_, _, F2, PySem.W.mg_of X G a2, b2⟩,
    d_law_cell := ⟨_, _, F3, PySem.W.mg_of X G a3, b3⟩,
    d_law_row := ⟨_, _, F4, PySem.W.mg_of X G a4, b4⟩,
    d_law_names := ⟨_, _, F5, PySem.W.mg_of X G a5, b5⟩,
    d_law_grown := ⟨_, _, F6, PySem.W.mg_of X G a6, b6⟩,
    d_law_statement := ⟨_, _, F7, PySem.W.mg_of X G a7, b7⟩,
    d_law_whole := ⟨_, _, F8, PySem.W.mg_of X G a8, b8⟩,
    d_law_counted := ⟨_, _, F9, PySem.W.mg_of X G a9, b9⟩,
    d_law := ⟨_, _, F10, PySem.W.mg_of X G a10, b10⟩ }
  have e := hfa.symm.trans (PySem.W.mg_of X G a10)
  cases e
  exact ⟨PySem.W.fnOf "law" "law" (defArgs s_law) (defBody s_law) (defScope s_law) .none kV10 dc10 pm10 an10 cd10 ct10, fun s v => .of_eq rfl, fun base _ _ => all_law T F10 base⟩
end Ob
open PySem PySem.W PyProof.Rows
set_option maxRecDepth 100000 in
set_option maxHeartbeats 0 in
theorem PySem.Challenge.cw_onlybuilt_k01_joints_and_knots_holds : PySem.Challenge.rw_onlybuilt_k01_joints_and_knots.Holds := by
  w_on; o_law; k_head; (case hw => w_witness2)
  k_fill
  refine L2.walk_of (l := PySem.Challenge.rw_onlybuilt_k01_joints_and_knots) (n := 63) (k := 27) (x := "_law_script") (CX := fun _ => L2.CX0) (sp := fun w => Ob.sp_law _) rfl (by decide) rfl ⟨rfl, by decide, by decide⟩ (fun w h Y => PySem.W.kIn_of Y) ?F (fun _ _ a ns hl _ hS => ⟨a, ns, rfl, hS, hl, fun _ => rfl⟩) (fun _ _ _ _ _ h => h)
  case F =>
    intro w mg fa h KX G hmg
    refine' Ob.all_mk KX G hmg ?a0 ?l0 ?c0 ?k0 ?a1 ?l1 ?c1 ?k1 ?a2 ?l2 ?c2 ?k2 ?a3 ?l3 ?c3 ?k3 ?a4 ?l4 ?c4 ?k4 ?a5 ?l5 ?c5 ?k5 ?a6 ?l6 ?c6 ?k6 ?a7 ?l7 ?c7 ?k7 ?a8 ?l8 ?c8 ?k8 ?a9 ?l9 ?c9 ?k9 ?a10 ?l10 ?c10 ?k10 ?z0 ?z1 ?z2 ?z3 ?z4 
    (case a0 => k_is); (case l0 => k_is); (case c0 => k_is); (case k0 => k_is)
    (case a1 => k_is); (case l1 => k_is); (case c1 => k_is); (case k1 => k_is)
    (case a2 => k_is); (case l2 => k_is); (case c2 => k_is); (case k2 => k_is)
    (case a3 => k_is); (case l3 => k_is); (case c3 => k_is); (case k3 => k_is)
    (case a4 => k_is); (case l4 => k_is); (case c4 => k_is); (case k4 => k_is)
    (case a5 => k_is); (case l5 => k_is); (case c5 => k_is); (case k5 => k_is)
    (case a6 => k_is); (case l6 => k_is); (case c6 => k_is); (case k6 => k_is)
    (case a7 => k_is); (case l7 => k_is); (case c7 => k_is); (case k7 => k_is)
    (case a8 => k_is); (case l8 => k_is); (case c8 => k_is); (case k8 => k_is)
    (case a9 => k_is); (case l9 => k_is); (case c9 => k_is); (case k9 => k_is)
    (case a10 => k_is); (case l10 => k_is); (case c10 => k_is); (case k10 => k_is)
    (case z0 => k_is)
    (case z1 => k_is)
    (case z2 => k_is)
    (case z3 => k_is)
    (case z4 => k_is)
