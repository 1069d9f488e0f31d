import PyProof.Rows.All
import Wide.All
import OpenK.AllK
import Wide.FinOn
import HandS.ForMost
import HandS.IsInst
import HandS.Codes
import HandS.Star
import HandS.Style
import HandS.FStr
import HandS.Exc
import HandS.TryOnly
import HandS.ExcOwn
import HandS.WordsExc
import HandS.RaiseMore
import HandS.ReplaceLit
import HandS.ReplaceList
import KE.KUnpackStar
import HandS.Rev
import PySem.Challenge.RW_onlybuilt_k09_what_is_a_name
set_option Elab.async false
set_option linter.all false
set_option maxRecDepth 100000
/-! ### heaps -/
namespace Ob
open PySem PySem.Spec PyProof.Rows L2

theorem seqT {K : PySem.W.Frag} {H H' : Hp} {a : Addr} {xs : List V} (e : Same H H') (h : SqT K H a xs) : SqT K H' a xs := by
  rcases h with (h | ⟨o, h⟩) | h
  · exact .inl (.inl (e _ _ h))
  · exact .inl (.inr ⟨o, e _ _ h⟩)
  · exact .inr h
theorem same_new {H : Hp} {p : Addr} {o : HO} (h : H p = none) : Same H (upd H p o) := fun b x e => by
  rw [upd_ne (ne_of_none e h)]
  exact e
theorem same_put {H H' : Hp} {p : Addr} {o : HO} (s : Same H H') (h : H p = none) : Same H (upd H' p o) := fun b x e => by
  rw [upd_ne (ne_of_none e h)]
  exact s b x e
/-- the tuples stay -/
def TK (K : PySem.W.Frag) (H H' : Hp) : Prop := ∀ a xs, SqT K H a xs → SqT K H' a xs
theorem Same.tk {K : PySem.W.Frag} {H H' : Hp} (e : Same H H') : TK K H H' := fun _ _ h => seqT e h
theorem TK.refl {K : PySem.W.Frag} {H : Hp} : TK K H H := fun _ _ h => h
theorem TK.trans {K : PySem.W.Frag} {H H1 H2 : Hp} (a : TK K H H1) (b : TK K H1 H2) : TK K H H2 := fun x y h => b x y (a x y h)
theorem TK.lst {K : PySem.W.Frag} {H : Hp} {p : Addr} {xs : List V} {o : HO} (h : H p = some (.lst xs)) : TK K H (upd H p o) := fun a ys q => by
  rcases q with (q | ⟨ob, q⟩) | q
  · exact .inl (.inl (by rw [upd_ne (ne_of q h (by intro z; cases z))]; exact q))
  · exact .inl (.inr ⟨ob, by rw [upd_ne (ne_of q h (by intro z; cases z))]; exact q⟩)
  · exact .inr q
theorem TK.new {K : PySem.W.Frag} {H : Hp} {p : Addr} {o : HO} (h : H p = none) : TK K H (upd H p o) := Same.tk (same_new h)
theorem tyL {K : PySem.W.Frag} {H : Hp} {p : Addr} {xs : List V} (h : H p = some (.lst xs)) : tyV K "list" (.ref p) H := .inl ⟨rfl, _, .inl (.inl h)⟩
theorem at0 {x : V} {xs : List V} : atI (x :: xs) 0 = some x := atI_nat (j := 0) rfl
theorem at1 {x y : V} {xs : List V} : atI (x :: y :: xs) 1 = some y := atI_nat (j := 1) rfl
theorem at2 {x y z : V} {xs : List V} : atI (x :: y :: z :: xs) 2 = some z := atI_nat (j := 2) rfl
theorem last_rev {x : V} {xs : List V} : (x :: xs).reverse[(x :: xs).reverse.length - 1]? = some x := by
  rw [List.reverse_cons, List.length_append, List.length_singleton, Nat.add_sub_cancel, List.getElem?_append_right (Nat.le_refl _), Nat.sub_self]
  rfl
theorem drop_rev {x : V} {xs : List V} : (x :: xs).reverse.dropLast = xs.reverse := by
  rw [List.reverse_cons, List.dropLast_concat]
theorem add_rev {x : V} {xs : List V} : xs.reverse ++ [x] = (x :: xs).reverse := (List.reverse_cons).symm
theorem emp_rev {x : V} {xs : List V} : (!(x :: xs).reverse.isEmpty) = true := by
  rw [List.reverse_cons]
  cases xs.reverse <;> rfl
theorem small {n : Nat} (h : n ≤ 100000) : n < sizeLine := Nat.lt_of_le_of_lt h (by decide)
theorem small' {n : Nat} (h : n ≤ 100000) : n ≤ sizeLine := Nat.le_of_lt (small h)
theorem sz0 : ([] : List V).length ≤ sizeLine := by show 0 ≤ sizeLine; decide
theorem sz1 {a : V} : [a].length ≤ sizeLine := by show 1 ≤ sizeLine; decide
theorem sz2 {a b : V} : [a, b].length ≤ sizeLine := by show 2 ≤ sizeLine; decide
theorem sz3 {a b c : V} : [a, b, c].length ≤ sizeLine := by show 3 ≤ sizeLine; decide
theorem sz4 {a b c d : V} : [a, b, c, d].length ≤ sizeLine := by show 4 ≤ sizeLine; decide
theorem pair_app {α β : Type} {R : α → β → Prop} : ∀ {xs ys : List α} {us ws : List β}, Paired R xs us → Paired R ys ws → Paired R (xs ++ ys) (us ++ ws)
  | _, _, _, _, .nil, s => s
  | _, _, _, _, .cons r t, s => .cons r (pair_app t s)
theorem pair_len {α β : Type} {R : α → β → Prop} : ∀ {xs : List α} {us : List β}, Paired R xs us → xs.length = us.length
  | _, _, .nil => rfl
  | _, _, .cons _ t => by rw [List.length_cons, List.length_cons, pair_len t]
theorem pair_map {α β : Type} {R S : α → β → Prop} (h : ∀ a b, R a b → S a b) : ∀ {xs : List α} {us : List β}, Paired R xs us → Paired S xs us
  | _, _, .nil => .nil
  | _, _, .cons r t => .cons (h _ _ r) (pair_map h t)
theorem pair_get {α β : Type} {R : α → β → Prop} : ∀ {xs : List α} {us : List β} {i : Nat} {x : α}, Paired R xs us → xs[i]? = some x → ∃ u, us[i]? = some u ∧ R x u
  | _, _, _, _, .nil, e => by simp at e
  | _, _, 0, x, .cons r _, e => by
    have e' := Option.some.inj e
    subst e'
    exact ⟨_, rfl, r⟩
  | _, _, i + 1, x, .cons _ t, e => by
    obtain ⟨u, h1, h2⟩ := pair_get (i := i) (x := x) t (by simpa using e)
    exact ⟨u, by simpa using h1, h2⟩

/-! ### statements -/
inductive J where
  | and | or | thn
  deriving DecidableEq
def J.s : J → Str
  | .and => "and" | .or => "or" | .thn => "then"
inductive Sm where
  | lt (n : List Nat) | nv | bin (w : J) (a b : Sm)
  deriving DecidableEq
def Sm.size : Sm → Nat
  | .lt _ => 1
  | .nv => 1
  | .bin _ a b => a.size + b.size + 1
def Sm.joints : Sm → Nat
  | .lt _ => 0
  | .nv => 0
  | .bin _ a b => a.joints + b.joints + 1
theorem Sm.size_joints : ∀ s : Sm, s.size = 2 * s.joints + 1
  | .lt _ => rfl
  | .nv => rfl
  | .bin _ a b => by
    have h1 := a.size_joints
    have h2 := b.size_joints
    show a.size + b.size + 1 = 2 * (a.joints + b.joints + 1) + 1
    omega
theorem Sm.size_pos (s : Sm) : 0 < s.size := by rw [s.size_joints]; omega
def Sm.isBin : Sm → Bool
  | .bin _ _ _ => true
  | _ => false
def Sm.standing : Sm → List Sm
  | .lt n => [.lt n]
  | .nv => [.nv]
  | .bin w a b => .bin w a b :: (a.standing ++ b.standing)
theorem Sm.len_standing : ∀ s : Sm, s.standing.length = s.size
  | .lt _ => rfl
  | .nv => rfl
  | .bin w a b => by
    show (Sm.bin w a b :: (a.standing ++ b.standing)).length = a.size + b.size + 1
    rw [List.length_cons, List.length_append, a.len_standing, b.len_standing]
theorem Sm.bin_standing : ∀ s : Sm, (s.standing.filter Sm.isBin).length = s.joints
  | .lt _ => rfl
  | .nv => rfl
  | .bin w a b => by
    show ((Sm.bin w a b :: (a.standing ++ b.standing)).filter Sm.isBin).length = a.joints + b.joints + 1
    rw [List.filter_cons_of_pos rfl, List.length_cons, List.filter_append, List.length_append, a.bin_standing, b.bin_standing]
/-- all letters are such -/
def Sm.In (p : List Nat → Prop) : Sm → Prop
  | .lt n => p n
  | .nv => True
  | .bin _ a b => a.In p ∧ b.In p
theorem Sm.In.imp {p q : List Nat → Prop} (h : ∀ l, p l → q l) : ∀ {s : Sm}, s.In p → s.In q
  | .lt _, g => h _ g
  | .nv, _ => True.intro
  | .bin _ a b, g => ⟨Sm.In.imp h (s := a) g.1, Sm.In.imp h (s := b) g.2⟩
/-- knots, c: within the left part of a then -/
def Sm.kn (c : Bool) : Sm → Nat
  | .lt _ => 0
  | .nv => 0
  | .bin w a b => (if w = .or ∨ (w = .thn ∧ c = true) then 1 else 0) + a.kn (c || decide (w = .thn)) + b.kn c
/-- the value v is the statement s -/
inductive IsSm (K : PySem.W.Frag) (H : Hp) : V → Sm → Prop where
  | lt {a : Addr} {n : List Nat} : SqT K H a [.str "letter", .str (SX.S n)] → IsSm K H (.ref a) (.lt n)
  | nv {a : Addr} : SqT K H a [.str "never"] → IsSm K H (.ref a) .nv
  | bin {a : Addr} {w : J} {l r : V} {s t : Sm} : SqT K H a [.str w.s, l, r] → IsSm K H l s → IsSm K H r t → IsSm K H (.ref a) (.bin w s t)
theorem IsSm.tk {K : PySem.W.Frag} {H H' : Hp} (k : TK K H H') {v : V} {s : Sm} (h : IsSm K H v s) : IsSm K H' v s := by
  induction h with
  | lt h => exact .lt (k _ _ h)
  | nv h => exact .nv (k _ _ h)
  | bin h _ _ i1 i2 => exact .bin (k _ _ h) i1 i2
theorem IsSm.same {K : PySem.W.Frag} {H H' : Hp} (e : Same H H') {v : V} {s : Sm} (h : IsSm K H v s) : IsSm K H' v s := h.tk (Same.tk e)
/-- what is read of a statement's tuple -/
def Sm.len : Sm → Nat
  | .lt _ => 2
  | .nv => 1
  | .bin _ _ _ => 3
theorem IsSm.tup {K : PySem.W.Frag} {H : Hp} {v : V} {s : Sm} (h : IsSm K H v s) : ∃ a xs, v = .ref a ∧ SqT K H a xs ∧ xs.length = s.len := by
  cases h with
  | lt h => exact ⟨_, _, rfl, h, rfl⟩
  | nv h => exact ⟨_, _, rfl, h, rfl⟩
  | bin h _ _ => exact ⟨_, _, rfl, h, rfl⟩

/-! ### defs -/
section
variable (P : Program) (w : World) (K : PySem.W.Frag) (mg : Str → Option Value) (base : Heap)
/-- a def of the text -/
structure Df (x : Str) (st : Stmt) (ps : List Str) : Prop where
  ex : ∃ (f : Addr) (fd : FuncData), Fun K x x st f fd ∧ mg x = some (.ref f) ∧ Binds K fd ps []
/-- a def's promise -/
structure Cl (k : Nat) (x : Str) (sp : Sp) : Prop where
  ex : ∃ (f : Addr) (fd : FuncData) (ps : List Str), FnOk P w K mg base CX0 k f fd ps sp ∧ mg x = some (.ref f) ∧ PySem.W.keepIn K (.ref f) = true ∧ Binds K fd ps []
end
section
variable {P : Program} {w : World} {K : PySem.W.Frag} {mg : Str → Option Value} {base : Heap}
theorem Df.ok {x : Str} {st : Stmt} {ps N : List Str} {k : Nat} {sp : Sp} (D : Df K mg x st ps) (S : FnScope N ps (defScope st)) (len : ∀ vs H Q E, sp vs H Q E → vs.length = ps.length)
    (hbody : ∀ (f : Addr) (cdv : Value) (A : Around) (outer : List Env) (s : Shared) (H : Hp) (vs : List V) (Q : VK) (E : XK), Room k (A.deeper (envOfC x (defScope st) s.heap.objs.size f cdv)) → sp vs H Q E →
      ∃ t, PSs (cxOf CX0 P w K mg base N x (defScope st) f cdv A outer s H E).nox (defBody st) t ∧ t { nx := fun _ H' => Q .non H', rt := Q } (start N vs) H) : Cl P w K mg base (k + 1) x sp := by
  obtain ⟨f, fd, F, m, b⟩ := D.ex
  exact ⟨f, fd, ps, F.ok S len (hbody f), m, F.kp, b⟩
theorem Df.none {x : Str} {st : Stmt} {ps : List Str} {sp : Sp} (D : Df K mg x st ps) (no : ∀ vs H Q E, ¬ sp vs H Q E) : Cl P w K mg base 0 x sp := by
  obtain ⟨f, fd, F, m, b⟩ := D.ex
  exact ⟨f, fd, ps, ⟨fun vs H Q E h => absurd h (no vs H Q E), fun A outer s H args us vs Q E _ _ _ _ h => absurd h (no vs H Q E)⟩, m, F.kp, b⟩
theorem Cl.mono {j k : Nat} {x : Str} {sp : Sp} (c : Cl P w K mg base j x sp) (h : j ≤ k) : Cl P w K mg base k x sp := by
  obtain ⟨f, fd, ps, F, m, kp, b⟩ := c.ex
  exact ⟨f, fd, ps, F.mono h, m, kp, b⟩
end
section
variable {X : Cx}
theorem pe_k {k j : Nat} {x : Str} {sp : Sp} {p pos : Pos} {e : Expr} {es : List Expr} {t : TA} (c : Cl X.prog X.w X.K X.mg X.base k x sp) (hr : Room j X.A) (hk : k ≤ j) (hg : Gl X x) (ha : PA X (e :: es) t)
    (hdb : (x == ("__debug__" : Str)) = false := by decide) (he : starEach (e :: es) X.env = (false, eval e X.env) :: starEach es X.env := by rfl) (hpl : (backTo pos (starEach es X.env)).any (·.1) = false := by rfl) : PE X (.Call (.Name x p) (e :: es) [] pos) (tCall sp [] E0 t) := by
  obtain ⟨f, fd, ps, F, m, kp, b⟩ := c.ex
  exact pe_call F (hr.mono hk) hg m kp b .nil pass0 ha hdb he hpl
end

def rLenK (K : PySem.W.Frag) : List V → Hp → VK → Prop := fun xs H Q => ∃ p ys, xs = [.ref p] ∧ (SqL K H p ys ∨ SqT K H p ys) ∧ Q (.int ys.length) H
def rListK (K : PySem.W.Frag) : List V → Hp → VK → Prop := fun xs H Q => ∃ p ys, xs = [.ref p] ∧ (SqL K H p ys ∨ SqT K H p ys) ∧ ∀ l, H l = none → Q (.ref l) (upd H l (.lst ys))
def tTru (K : PySem.W.Frag) (ta : TE) : TT := fun σ H Q => ta σ H fun x H' => ∃ k, TruV K x H' k ∧ Q k H'
theorem pt_truthK {X : Cx} {a : Expr} {ta : TE} {K : PySem.W.Frag} (ha : PE X a ta) (he : ∀ whole, isTrue a X.env whole = (do let v ← whole; standAt a.pos; holding [v] (truthy v))) (hK : X.K = K := by rfl) :
    PT X a (tTru K ta) := by
  subst hK
  exact pt_truth ha he
theorem pi_listK {X : Cx} {K : PySem.W.Frag} {tg e : Expr} {te : TE} (he : PE X e te) (hK : X.K = K := by rfl) : PI X tg e (iList K te) := by
  subst hK
  exact pi_list he
theorem pi_tupK {X : Cx} {K : PySem.W.Frag} {tg e : Expr} {te : TE} (he : PE X e te) (hK : X.K = K := by rfl) : PI X tg e (iTup K te) := by
  subst hK
  exact pi_tup he
/-! ### a cut behind a statement -/
def tCutO (t u : TS) : TS := fun D σ H => ∃ Mid : L2.St → Hp → Prop, t { D with nx := Mid } σ H ∧ ∀ σ' H', Mid σ' H' → u D σ' H'
theorem pss_cutO {X : Cx} {st : Stmt} {rest : List Stmt} {t u : TS} (h1 : PS X st t) (h2 : PSs X rest u) : PSs X (st :: rest) (tCutO t u) := by
  refine ⟨fun pins s σ H D I h => ?_⟩
  obtain ⟨Mid, q1, q2⟩ := h
  refine wpAny_execs_cons (thn (h1.run pins s σ H { D with nx := Mid } I q1) fun f s1 q => ?_)
  cases f with
  | next =>
    obtain ⟨σ', H', I', q⟩ := q
    exact h2.run pins s1 σ' H' D I' (q2 σ' H' q)
  | ret v => exact q
  | brk => exact q
  | cont => exact q

/-! ### texts, cuts, names -/
abbrev S (l : List Nat) : Str := SX.S l
theorem S_tl (x : Str) : S x.cps.toList = x := SX.S_tl x
theorem S_cps (l : List Nat) : (S l).cps.toList = l := rfl
theorem S_inj {a b : List Nat} (h : S a = S b) : a = b := SX.S_inj h
theorem S_len (a : List Nat) : (S a).length = a.length := SX.S_len a
theorem S_cat (a b : List Nat) : S a ++ S b = S (a ++ b) := SX.S_cat a b
theorem joinL_signs : ∀ cs : List Nat, TL.joinL [] (cs.map fun c => [c]) = cs
  | [] => rfl
  | [_] => rfl
  | c :: d :: r => by
    show [c] ++ ([] ++ TL.joinL [] ((d :: r).map fun c => [c])) = c :: d :: r
    rw [joinL_signs (d :: r)]
    rfl
theorem join_signs (cs : List Nat) : Txt.join ("" : Str) (cs.map fun c => S [c]) = S cs := by
  have h := SX.join_S [] (cs.map fun c => [c])
  rw [List.map_map, joinL_signs] at h
  exact h
theorem sum_ones (cs : List Nat) : ((cs.map fun c => S [c]).map (·.length)).sum = cs.length := by
  rw [List.map_map]
  induction cs with
  | nil => rfl
  | cons c r ih =>
    rw [List.map_cons, List.sum_cons, ih, List.length_cons, Nat.add_comm]
    rfl
theorem cut_nat (xs : List V) (a b : Nat) : cutV xs (some (a : Int)) (some (b : Int)) = (xs.drop a).take (b - a) := by
  unfold cutV
  rw [HT.sIx_nat, HT.sIx_nat]
  by_cases h : a ≤ xs.length
  · rw [Nat.min_eq_left h]
    by_cases g : b ≤ xs.length
    · rw [Nat.min_eq_left g]
    · rw [Nat.min_eq_right (by omega), List.take_of_length_le (by rw [List.length_drop]; omega), List.take_of_length_le (by rw [List.length_drop]; omega)]
  · rw [Nat.min_eq_right (show xs.length ≤ a by omega), List.drop_of_length_le (Nat.le_refl _), List.drop_of_length_le (show xs.length ≤ a by omega), List.take_nil, List.take_nil]
theorem cut_from (xs : List V) (a : Nat) : cutV xs (some (a : Int)) none = xs.drop a := by
  unfold cutV
  rw [HT.sIx_nat, HT.sIx_none]
  by_cases h : a ≤ xs.length
  · rw [Nat.min_eq_left h, List.take_of_length_le (by rw [List.length_drop]; exact Nat.le_refl _)]
  · rw [Nat.min_eq_right (show xs.length ≤ a by omega), List.drop_of_length_le (Nat.le_refl _), List.drop_of_length_le (show xs.length ≤ a by omega), List.take_nil]
theorem cut_to (xs : List V) (b : Nat) : cutV xs none (some (b : Int)) = xs.take b := by
  unfold cutV
  rw [HT.sIx_nat, HT.sIx_none, List.drop_zero, Nat.sub_zero]
  by_cases g : b ≤ xs.length
  · rw [Nat.min_eq_left g]
  · rw [Nat.min_eq_right (by omega), List.take_of_length_le (Nat.le_refl _), List.take_of_length_le (by omega)]
/-- a name of a letter, as its signs -/
structure Nm (l : List Nat) : Prop where
  lo : 1 ≤ l.length
  hi : l.length ≤ 8
  abc : ∀ c ∈ l, 97 ≤ c ∧ c ≤ 122
  free : S l ≠ "and" ∧ S l ≠ "or" ∧ S l ≠ "then" ∧ S l ≠ "never"
theorem abc_at : ∀ j : Nat, j < 26 → ((("abcdefghijklmnopqrstuvwxyz" : Str)).cps.toList)[j]? = some (97 + j) := by
  decide +kernel

theorem inV_str (x : Str) (ys : List Str) : inV (.str x) (ys.map V.str) = ys.any (· == x) := by
  unfold inV
  rw [List.any_map]
  rfl
theorem kept_cases {l : List Nat} (h : inV (.str (S l)) [.str "and", .str "or", .str "then", .str "never"] = true) : l = [97, 110, 100] ∨ l = [111, 114] ∨ l = [116, 104, 101, 110] ∨ l = [110, 101, 118, 101, 114] := by
  have h' : (["and", "or", "then", "never"] : List Str).any (· == S l) = true := by rw [← inV_str]; exact h
  rw [List.any_eq_true] at h'
  obtain ⟨x, hx, e⟩ := h'
  have e' : x = S l := eq_of_beq e
  have e2 : x.cps.toList = l := by rw [e']
  rw [← e2]
  rcases List.mem_cons.mp hx with rfl | hx
  · exact .inl (by decide +kernel)
  rcases List.mem_cons.mp hx with rfl | hx
  · exact .inr (.inl (by decide +kernel))
  rcases List.mem_cons.mp hx with rfl | hx
  · exact .inr (.inr (.inl (by decide +kernel)))
  rcases List.mem_cons.mp hx with rfl | hx
  · exact .inr (.inr (.inr (by decide +kernel)))
  · cases hx
theorem kept_not {l : List Nat} (h : ¬ inV (.str (S l)) [.str "and", .str "or", .str "then", .str "never"] = true) : S l ≠ "and" ∧ S l ≠ "or" ∧ S l ≠ "then" ∧ S l ≠ "never" := by
  have h' : ¬ (["and", "or", "then", "never"] : List Str).any (· == S l) = true := by rw [← inV_str]; exact h
  rw [List.any_eq_true] at h'
  have n : ∀ x ∈ (["and", "or", "then", "never"] : List Str), S l ≠ x := fun x hx e => h' ⟨x, hx, by rw [e]; exact beq_self_eq_true x⟩
  exact ⟨n _ (by simp), n _ (by simp), n _ (by simp), n _ (by simp)⟩
theorem nm_no {l : List Nat} (h1 : 1 ≤ l.length) (h2 : l.length ≤ 8) (h3 : ∀ c ∈ l, 97 ≤ c ∧ c ≤ 122) (h : ¬ inV (.str (S l)) [.str "and", .str "or", .str "then", .str "never"] = true) : Nm l := ⟨h1, h2, h3, kept_not h⟩
theorem nm_x {l : List Nat} (h : inV (.str (S l)) [.str "and", .str "or", .str "then", .str "never"] = true) : Nm (l ++ [120]) := by
  rcases kept_cases h with rfl | rfl | rfl | rfl <;> exact ⟨by decide, by decide, by decide, by decide +kernel⟩

/-! ### tests and values that change nothing -/
section
variable {σ : L2.St} {H : Hp} {ta tb : TE} {t u : TT} {x y z v : V} {a b : Bool} {K : PySem.W.Frag}
def An (t : TT) (σ : L2.St) (H : Hp) (b : Bool) : Prop := ∀ Q : Bool → Hp → Prop, Q b H → t σ H Q
def Vl (te : TE) (σ : L2.St) (H : Hp) (v : V) : Prop := ∀ Q : VK, Q v H → te σ H Q
theorem vl_var {i : Nat} (h : σ[i]? = some (some v)) : Vl (tVar i) σ H v := fun _ q => ⟨v, h, q⟩
theorem vl_c : Vl (tC v) σ H v := fun _ q => q
theorem an_or (h1 : An t σ H a) (h2 : An u σ H b) : An (tOr t u) σ H (a || b) := fun Q q => h1 _ (by
  cases a with
  | true => exact iteT q
  | false => exact iteF (h2 Q q))
theorem an_and (h1 : An t σ H a) (h2 : An u σ H b) : An (tAnd t u) σ H (a && b) := fun Q q => h1 _ (by
  cases a with
  | true => exact iteT (h2 Q q)
  | false => exact iteF q)
theorem an_not (h : An t σ H a) : An (tNot t) σ H (!a) := fun Q q => h _ q
theorem an_val (h : Vl ta σ H (.bl b)) : An (tB ta) σ H b := fun Q q => h _ ⟨b, rfl, q⟩
theorem an_test (h : Vl ta σ H (.bl b)) : An (tTest ta) σ H b := fun Q q => h _ ⟨b, rfl, q⟩
theorem vl_eq (h1 : Vl ta σ H x) (h2 : Vl tb σ H y) (hs : scal x y = true) : Vl (tOp rEq ta tb) σ H (.bl (decide (x = y))) := fun Q q => h1 _ (h2 _ ⟨hs, q⟩)
theorem vl_ne (h1 : Vl ta σ H x) (h2 : Vl tb σ H y) (hs : scal x y = true) : Vl (tOp rNe ta tb) σ H (.bl (!decide (x = y))) := fun Q q => h1 _ (h2 _ ⟨hs, q⟩)
theorem vl_I0 {g : Int → Int → V} {i j : Int} (h1 : Vl ta σ H (.int i)) (h2 : Vl tb σ H (.int j)) : Vl (tOp (rI0 g) ta tb) σ H (g i j) := fun Q q => h1 _ (h2 _ ⟨i, j, rfl, rfl, q⟩)
theorem vl_I {C : Int → Int → Prop} {g : Int → Int → V} {i j : Int} (h1 : Vl ta σ H (.int i)) (h2 : Vl tb σ H (.int j)) (hc : C i j) : Vl (tOp (rI C g) ta tb) σ H (g i j) := fun Q q => h1 _ (h2 _ ⟨i, j, rfl, rfl, hc, q⟩)
theorem vl_orV (h1 : Vl ta σ H (.bl a)) (h2 : Vl tb σ H (.bl b)) : Vl (tOrV ta tb) σ H (.bl (a || b)) := fun Q q => h1 _ ⟨a, rfl, (by
  cases a with
  | true => exact iteT q
  | false => exact iteF (h2 Q q))⟩
theorem vl_andV (h1 : Vl ta σ H (.bl a)) (h2 : Vl tb σ H (.bl b)) : Vl (tAndV ta tb) σ H (.bl (a && b)) := fun Q q => h1 _ ⟨a, rfl, (by
  cases a with
  | true => exact iteT (h2 Q q)
  | false => exact iteF q)⟩
theorem vl_notV (h1 : Vl ta σ H (.bl a)) : Vl (tNotV ta) σ H (.bl (!a)) := fun Q q => h1 _ ⟨a, rfl, q⟩
theorem vl_ixT {p : Addr} {xs : List V} {i : Int} (h1 : Vl ta σ H (.ref p)) (h2 : Vl tb σ H (.int i)) (hs : SqT K H p xs) (ha : atI xs i = some v) : Vl (tOp (rIxT K) ta tb) σ H v := fun Q q => h1 _ (h2 _ ⟨p, xs, i, v, rfl, rfl, hs, ha, q⟩)
theorem vl_ixL {p : Addr} {xs : List V} {i : Int} (h1 : Vl ta σ H (.ref p)) (h2 : Vl tb σ H (.int i)) (hs : SqL K H p xs) (ha : atI xs i = some v) : Vl (tOp (rIxL K) ta tb) σ H v := fun Q q => h1 _ (h2 _ ⟨p, xs, i, v, rfl, rfl, hs, ha, q⟩)
theorem vl_lenT {p : Addr} {xs : List V} (h1 : Vl ta σ H (.ref p)) (hs : SqT K H p xs) : Vl (tCB (rLenK K) (tCons ta tNil)) σ H (.int xs.length) := fun Q q => h1 _ ⟨p, xs, rfl, .inr hs, q⟩
theorem vl_lenL {p : Addr} {xs : List V} (h1 : Vl ta σ H (.ref p)) (hs : SqL K H p xs) : Vl (tCB (rLenK K) (tCons ta tNil)) σ H (.int xs.length) := fun Q q => h1 _ ⟨p, xs, rfl, .inl hs, q⟩
end
theorem j_eq (w u : J) : decide (V.str w.s = V.str u.s) = decide (w = u) := by
  cases w <;> cases u <;> decide

/-! ### statements as data -/
def rEqE (K : PySem.W.Frag) : R2 := fun x y H Q => ∃ d e, Dp K H x d ∧ Dp K H y e ∧ d.canLay0 = true ∧ e.canLay0 = true ∧ min d.depth e.depth ≤ 64 ∧ Q (.bl (PyData.eqv d e)) H
def rNeE (K : PySem.W.Frag) : R2 := fun x y H Q => ∃ d e, Dp K H x d ∧ Dp K H y e ∧ d.canLay0 = true ∧ e.canLay0 = true ∧ min d.depth e.depth ≤ 64 ∧ Q (.bl (!PyData.eqv d e)) H
theorem op_eqE {X : Cx} (hu : X.A.units + 64 < cLine) : OpR X (compareOp .Eq) (rEqE X.K) := by
  intro pins s σ H x y v u Q I rx ry h
  obtain ⟨d, e, hd, he, sd, se, hm, q⟩ := h
  obtain ⟨as, r1⟩ := Dp.reads I d x v hd rx
  obtain ⟨bs, r2⟩ := Dp.reads I e y u he ry
  exact SeqAt.compareEq_reads r1 r2 sd se (by omega) ⟨.bl _, H, I, rfl, q⟩
theorem op_neE {X : Cx} (hu : X.A.units + 64 < cLine) : OpR X (compareOp .NotEq) (rNeE X.K) := by
  intro pins s σ H x y v u Q I rx ry h
  obtain ⟨d, e, hd, he, sd, se, hm, q⟩ := h
  obtain ⟨as, r1⟩ := Dp.reads I d x v hd rx
  obtain ⟨bs, r2⟩ := Dp.reads I e y u he ry
  exact SeqAt.compareNe_reads r1 r2 sd se (by omega) ⟨.bl _, H, I, rfl, q⟩
def Ch (l : List Nat) : Prop := ∀ c ∈ l, c < 1114112
theorem Nm.ch {l : List Nat} (h : Nm l) : Ch l := fun c hc => by
  have := h.abc c hc
  omega
theorem Ch.ok {l : List Nat} (h : Ch l) : PyData.strOk (S l) = true := by
  unfold PyData.strOk
  rw [Array.all_eq_true']
  intro c hc
  have hc' : c ∈ l := by
    have : c ∈ (S l).cps.toList := Array.mem_toList_iff.mpr hc
    exact this
  exact decide_eq_true (h c hc')
def Sm.data : Sm → PyData
  | .lt n => .tuple [.str "letter", .str (S n)]
  | .nv => .tuple [.str "never"]
  | .bin w a b => .tuple [.str w.s, a.data, b.data]
theorem IsSm.dp {K : PySem.W.Frag} {H : Hp} {v : V} {s : Sm} (h : IsSm K H v s) : Dp K H v s.data := by
  induction h with
  | lt h => exact .tup h (.cons (.str _) (.cons (.str _) .nil))
  | nv h => exact .tup h (.cons (.str _) .nil)
  | bin h _ _ i1 i2 => exact .tup h (.cons (.str _) (.cons i1 (.cons i2 .nil)))
theorem J.ok (w : J) : PyData.strOk w.s = true := by cases w <;> decide +kernel
theorem Sm.lay : ∀ {s : Sm}, s.In Ch → s.data.canLay0 = true
  | .lt n, h => by
    have h' : Ch n := h
    show (PyData.tuple [.str "letter", .str (S n)]).canLay0 = true
    simp only [PyData.canLay0, PyData.canLayAll0, h'.ok, Bool.and_true]
    decide +kernel
  | .nv, _ => by decide +kernel
  | .bin w a b, h => by
    show (PyData.tuple [.str w.s, a.data, b.data]).canLay0 = true
    simp only [PyData.canLay0, PyData.canLayAll0, Sm.lay (s := a) h.1, Sm.lay (s := b) h.2, w.ok, Bool.and_true]
theorem Sm.depth_le : ∀ s : Sm, s.data.depth ≤ s.joints + 1
  | .lt n => by
    show (PyData.tuple [.str "letter", .str (S n)]).depth ≤ 0 + 1
    simp [PyData.depth, PyData.depthAll]
  | .nv => by decide +kernel
  | .bin w a b => by
    have h1 := a.depth_le
    have h2 := b.depth_le
    show (PyData.tuple [.str w.s, a.data, b.data]).depth ≤ a.joints + b.joints + 1 + 1
    simp only [PyData.depth, PyData.depthAll]
    omega
theorem str_beq (a b : List Nat) : (S a == S b) = decide (a = b) := SX.S_beq_eq
theorem eqv_s (a b : Str) : PyData.eqv (.str a) (.str b) = (a == b) := by rw [PyData.eqv]
theorem eqv_t1 (a b : PyData) : PyData.eqv (.tuple [a]) (.tuple [b]) = PyData.eqv a b := by
  rw [PyData.eqv, PyData.eqvAll, PyData.eqvAll, Bool.and_true]
theorem eqv_t2 (a b c d : PyData) : PyData.eqv (.tuple [a, b]) (.tuple [c, d]) = (PyData.eqv a c && PyData.eqv b d) := by
  rw [PyData.eqv, PyData.eqvAll, PyData.eqvAll, PyData.eqvAll, Bool.and_true]
theorem eqv_t3 (a b c d e f : PyData) : PyData.eqv (.tuple [a, b, c]) (.tuple [d, e, f]) = (PyData.eqv a d && (PyData.eqv b e && PyData.eqv c f)) := by
  rw [PyData.eqv, PyData.eqvAll, PyData.eqvAll, PyData.eqvAll, PyData.eqvAll, Bool.and_true]
theorem eqv_tn {xs ys : List PyData} (h : xs.length ≠ ys.length) : PyData.eqv (.tuple xs) (.tuple ys) = false := by
  rw [PyData.eqv]
  exact SeqAt.eqvAll_other_length h
theorem eqv_ln {xs ys : List PyData} (h : xs.length ≠ ys.length) : PyData.eqv (.list xs) (.list ys) = false := by
  rw [PyData.eqv]
  exact SeqAt.eqvAll_other_length h
theorem eqv_nil : PyData.eqv (.list []) (.list []) = true := by
  rw [PyData.eqv, PyData.eqvAll]
theorem Sm.eqv (s : Sm) : ∀ t : Sm, PyData.eqv s.data t.data = decide (s = t) := by
  induction s with
  | lt n =>
    intro t
    cases t with
    | lt m =>
      show PyData.eqv (.tuple [.str "letter", .str (S n)]) (.tuple [.str "letter", .str (S m)]) = _
      rw [eqv_t2, eqv_s, eqv_s, beq_self_eq_true, Bool.true_and, str_beq]
      rw [decide_eq_decide]
      exact ⟨fun h => by rw [h], fun h => by injection h⟩
    | nv =>
      show PyData.eqv (.tuple [.str "letter", .str (S n)]) (.tuple [.str "never"]) = _
      rw [decide_eq_false (fun h => nomatch h)]
      exact eqv_tn (by simp)
    | bin w a b =>
      show PyData.eqv (.tuple [.str "letter", .str (S n)]) (.tuple [.str w.s, a.data, b.data]) = _
      rw [decide_eq_false (fun h => nomatch h)]
      exact eqv_tn (by simp)
  | nv =>
    intro t
    cases t with
    | lt n =>
      show PyData.eqv (.tuple [.str "never"]) (.tuple [.str "letter", .str (S n)]) = _
      rw [decide_eq_false (fun h => nomatch h)]
      exact eqv_tn (by simp)
    | nv =>
      rw [decide_eq_true rfl]
      show PyData.eqv (.tuple [.str "never"]) (.tuple [.str "never"]) = _
      rw [eqv_t1, eqv_s, beq_self_eq_true]
    | bin w a b =>
      show PyData.eqv (.tuple [.str "never"]) (.tuple [.str w.s, a.data, b.data]) = _
      rw [decide_eq_false (fun h => nomatch h)]
      exact eqv_tn (by simp)
  | bin w a b iha ihb =>
    intro t
    cases t with
    | lt n =>
      show PyData.eqv (.tuple [.str w.s, a.data, b.data]) (.tuple [.str "letter", .str (S n)]) = _
      rw [decide_eq_false (fun h => nomatch h)]
      exact eqv_tn (by simp)
    | nv =>
      show PyData.eqv (.tuple [.str w.s, a.data, b.data]) (.tuple [.str "never"]) = _
      rw [decide_eq_false (fun h => nomatch h)]
      exact eqv_tn (by simp)
    | bin u c d =>
      show PyData.eqv (.tuple [.str w.s, a.data, b.data]) (.tuple [.str u.s, c.data, d.data]) = _
      rw [eqv_t3, eqv_s, iha c, ihb d]
      have hw : (w.s == u.s) = decide (w = u) := by cases w <;> cases u <;> decide +kernel
      rw [hw]
      by_cases e : w = u ∧ a = c ∧ b = d
      · obtain ⟨rfl, rfl, rfl⟩ := e
        simp
      · rw [decide_eq_false (show ¬ (Sm.bin w a b = Sm.bin u c d) from fun h => e (by injection h with h1 h2 h3; exact ⟨h1, h2, h3⟩))]
        by_cases h1 : w = u
        · by_cases h2 : a = c
          · by_cases h3 : b = d
            · exact absurd ⟨h1, h2, h3⟩ e
            · simp [h3]
          · simp [h2]
        · simp [h1]

mutual
theorem Dp.sm {K : PySem.W.Frag} {H H' : Hp} (e : Same H H') : ∀ {v : V} {d : PyData}, Dp K H v d → Dp K H' v d
  | _, _, .non => .non
  | _, _, .bl b => .bl b
  | _, _, .int i => .int i
  | _, _, .str x => .str x
  | _, _, .lst h a => .lst (e.seq h) (DpAll.sm e a)
  | _, _, .tup h a => .tup (seqT e h) (DpAll.sm e a)
theorem DpAll.sm {K : PySem.W.Frag} {H H' : Hp} (e : Same H H') : ∀ {vs : List V} {ds : List PyData}, DpAll K H vs ds → DpAll K H' vs ds
  | _, _, .nil => .nil
  | _, _, .cons h a => .cons (Dp.sm e h) (DpAll.sm e a)
end
theorem dpAll_of {α : Type} {K : PySem.W.Frag} {H : Hp} {R : V → α → Prop} {f : α → PyData} (h : ∀ v p, R v p → Dp K H v (f p)) : ∀ {ws : List V} {st : List α}, Paired R ws st → DpAll K H ws (st.map f)
  | _, _, .nil => .nil
  | _, _, .cons r t => .cons (h _ _ r) (dpAll_of h t)
theorem dpAll_app {K : PySem.W.Frag} {H : Hp} : ∀ {xs ys : List V} {ds es : List PyData}, DpAll K H xs ds → DpAll K H ys es → DpAll K H (xs ++ ys) (ds ++ es)
  | _, _, _, _, .nil, s => s
  | _, _, _, _, .cons r t, s => .cons r (dpAll_app t s)
theorem dpAll_rev {K : PySem.W.Frag} {H : Hp} : ∀ {xs : List V} {ds : List PyData}, DpAll K H xs ds → DpAll K H xs.reverse ds.reverse
  | _, _, .nil => .nil
  | _, _, .cons r t => by
    rw [List.reverse_cons, List.reverse_cons]
    exact dpAll_app (dpAll_rev t) (.cons r .nil)
theorem lay_all : ∀ {ds : List PyData}, (∀ d ∈ ds, d.canLay0 = true) → PyData.canLayAll0 ds = true
  | [], _ => by rw [PyData.canLayAll0]
  | d :: r, h => by
    rw [PyData.canLayAll0, h d (List.mem_cons_self ..), lay_all (ds := r) fun x hx => h x (List.mem_cons_of_mem _ hx)]
    rfl
theorem lay_lst {ds : List PyData} (h : ∀ d ∈ ds, d.canLay0 = true) : (PyData.list ds).canLay0 = true := by
  rw [PyData.canLay0]
  exact lay_all h
theorem lay_tup {ds : List PyData} (h : ∀ d ∈ ds, d.canLay0 = true) : (PyData.tuple ds).canLay0 = true := by
  rw [PyData.canLay0]
  exact lay_all h
theorem dpAll_nil {K : PySem.W.Frag} {H : Hp} {xs : List V} {ds : List PyData} (h : DpAll K H xs ds) : PyData.eqv (.list ds) (.list []) = xs.isEmpty := by
  cases h with
  | nil => exact eqv_nil
  | cons _ _ => exact eqv_ln (by simp)
theorem depth_nil (d : PyData) : min d.depth (PyData.list []).depth ≤ 64 := Nat.le_trans (Nat.min_le_right _ _) (by decide +kernel)
/-- xs != [] -/
theorem ne_nil {K : PySem.W.Frag} {σ : L2.St} {H : Hp} {ta : TE} {k : Addr} {xs : List V} {ds : List PyData} {Q : VK} (h1 : Vl ta σ H (.ref k)) (hs : SqL K H k xs) (hd : DpAll K H xs ds) (hl : ∀ d ∈ ds, d.canLay0 = true)
    (q : ∀ p, H p = none → Q (.bl (!xs.isEmpty)) (upd H p (.lst []))) : tOp (rNeE K) ta (tLst tNil) σ H Q := h1 _ ⟨sz0, fun p np => ⟨.list ds, .list [], .lst ((same_new np).seq hs) (DpAll.sm (same_new np) hd), .lst (.inl (.inl upd_same)) .nil, lay_lst hl, by decide +kernel, depth_nil _, by
  rw [dpAll_nil hd]
  exact q p np⟩⟩
/-- xs == [] -/
theorem eq_nil {K : PySem.W.Frag} {σ : L2.St} {H : Hp} {ta : TE} {k : Addr} {xs : List V} {ds : List PyData} {Q : VK} (h1 : Vl ta σ H (.ref k)) (hs : SqL K H k xs) (hd : DpAll K H xs ds) (hl : ∀ d ∈ ds, d.canLay0 = true)
    (q : ∀ p, H p = none → Q (.bl xs.isEmpty) (upd H p (.lst []))) : tOp (rEqE K) ta (tLst tNil) σ H Q := h1 _ ⟨sz0, fun p np => ⟨.list ds, .list [], .lst ((same_new np).seq hs) (DpAll.sm (same_new np) hd), .lst (.inl (.inl upd_same)) .nil, lay_lst hl, by decide +kernel, depth_nil _, by
  rw [dpAll_nil hd]
  exact q p np⟩⟩
theorem dpAll_ints {K : PySem.W.Frag} {H : Hp} : ∀ ns : List Int, DpAll K H (ns.map V.int) (ns.map PyData.int)
  | [] => .nil
  | n :: r => .cons (.int n) (dpAll_ints r)
theorem lay_ints (ns : List Int) : ∀ d ∈ ns.map PyData.int, d.canLay0 = true := fun d hd => by
  obtain ⟨n, _, rfl⟩ := List.mem_map.mp hd
  rfl
/-- a statement and a truth, as a tuple -/
def WP (K : PySem.W.Frag) (H H3 : Hp) (v : V) (p : Sm × Bool) : Prop := ∃ a x, v = .ref a ∧ SqT K H3 a [x, .bl p.2] ∧ IsSm K H x p.1
theorem WP.tk {K : PySem.W.Frag} {H H3 H4 : Hp} {v : V} {p : Sm × Bool} (k : TK K H3 H4) (h : WP K H H3 v p) : WP K H H4 v p := by
  obtain ⟨a, x, e, hT, hs⟩ := h
  exact ⟨a, x, e, k _ _ hT, hs⟩
def wpd (p : Sm × Bool) : PyData := .tuple [p.1.data, .bool p.2]
theorem WP.dp {K : PySem.W.Frag} {H H3 : Hp} (e : Same H H3) {v : V} {p : Sm × Bool} (h : WP K H H3 v p) : Dp K H3 v (wpd p) := by
  obtain ⟨a, x, rfl, hT, hs⟩ := h
  exact .tup hT (.cons (hs.same e).dp (.cons (.bl _) .nil))
theorem wpd_lay {p : Sm × Bool} (h : p.1.In Ch) : (wpd p).canLay0 = true := lay_tup fun d hd => by
  rcases List.mem_cons.mp hd with rfl | hd
  · exact Sm.lay h
  · rw [List.mem_singleton.mp hd]
    rfl
def szs (st : List (Sm × Bool)) : Nat := (st.map fun p => p.1.size).sum
def kns (st : List (Sm × Bool)) : Nat := (st.map fun p => p.1.kn p.2).sum
def jns (st : List (Sm × Bool)) : Nat := (st.map fun p => p.1.joints).sum
theorem szs_cons (p : Sm × Bool) (st : List (Sm × Bool)) : szs (p :: st) = p.1.size + szs st := rfl
theorem kns_cons (p : Sm × Bool) (st : List (Sm × Bool)) : kns (p :: st) = p.1.kn p.2 + kns st := rfl
theorem jns_cons (p : Sm × Bool) (st : List (Sm × Bool)) : jns (p :: st) = p.1.joints + jns st := rfl
theorem szs_len : ∀ st : List (Sm × Bool), st.length ≤ szs st
  | [] => Nat.le_refl _
  | p :: r => by
    have h1 := szs_len r
    have h2 := p.1.size_pos
    rw [szs_cons, List.length_cons]
    omega
end Ob

/-! ### the text of a statement -/
namespace Ob
open PySem PySem.Spec PyProof.Rows L2

/-- a tuple of the written part -/
def KT (K : PySem.W.Frag) (a : Addr) (xs : List V) : Prop := ∃ (o : Obj) (its : Array Value) (n : Nat), K.lookup a = some o ∧ o.cls = .type "tuple" ∧ o.data = .seq its n ∧ its.size ≤ sizeLine ∧ Vals xs its.toList
theorem KT.sq {K : PySem.W.Frag} {H : Hp} {a : Addr} {xs : List V} (h : KT K a xs) : SqT K H a xs := .inr h
theorem kt_of {K : PySem.W.Frag} {a : Addr} {xs : List V} {d : Option Addr} {its : Array Value} {n : Nat} {sl : Array (Option Value)} (l : K.lookup a = some ⟨.type "tuple", d, .seq its n, sl⟩) (v : Vals xs its.toList) (z : its.size ≤ sizeLine) : KT K a xs := ⟨_, its, n, l, rfl, rfl, z, v⟩
theorem tyx_tup {K : PySem.W.Frag} {H : Hp} {a : Addr} {xs : List V} (h : SqT K H a xs) : TyX K H (.ref a) (.type "tuple") := by
  rcases h with (h | ⟨o, h⟩) | ⟨o, _, _, h, c, _⟩
  · exact .base (.tup h)
  · exact .fTuple h
  · exact .kTuple h c

/-- the word at a statement's begin -/
def Sm.word : Sm → Str
  | .lt _ => "letter"
  | .nv => "never"
  | .bin w _ _ => w.s
/-- the joints that stand in brackets on the left, on the right -/
def lefts : J → List J
  | .and => [.or, .thn]
  | .or => [.thn]
  | .thn => [.thn]
def rights : J → List J
  | .and => [.and, .or, .thn]
  | .or => [.or, .thn]
  | .thn => []
def Sm.among (s : Sm) (ws : List J) : Bool := match s with
  | .bin w _ _ => ws.contains w
  | _ => false
def wrap (c : Bool) (t : List Nat) : List Nat := if c then 40 :: (t ++ [41]) else t
def J.sp : J → List Nat
  | .and => [32, 97, 110, 100, 32]
  | .or => [32, 111, 114, 32]
  | .thn => [32, 116, 104, 101, 110, 32]
theorem J.sp_len (w : J) : w.sp.length ≤ 6 := by cases w <;> decide
def Sm.txt : Sm → List Nat
  | .lt n => n
  | .nv => [110, 101, 118, 101, 114]
  | .bin w a b => wrap (a.among (lefts w)) a.txt ++ (w.sp ++ wrap (b.among (rights w)) b.txt)
theorem wrap_len (c : Bool) (t : List Nat) : (wrap c t).length ≤ t.length + 2 := by
  unfold wrap
  cases c with
  | true => simp
  | false => simp
theorem Sm.txt_len : ∀ {s : Sm}, s.In Nm → s.txt.length ≤ 20 * s.size
  | .lt n, h => by
    have h' : Nm n := h
    show n.length ≤ 20 * 1
    have := h'.hi
    omega
  | .nv, _ => by decide
  | .bin w a b, h => by
    have h1 := Sm.txt_len (s := a) h.1
    have h2 := Sm.txt_len (s := b) h.2
    have h3 := wrap_len (a.among (lefts w)) a.txt
    have h4 := wrap_len (b.among (rights w)) b.txt
    have h5 := w.sp_len
    show (wrap (a.among (lefts w)) a.txt ++ (w.sp ++ wrap (b.among (rights w)) b.txt)).length ≤ 20 * (a.size + b.size + 1)
    rw [List.length_append, List.length_append]
    omega
theorem in_word (s : Sm) (ws : List J) : inV (.str s.word) (ws.map fun w => V.str w.s) = s.among ws := by
  have e : (ws.map fun w => V.str w.s) = (ws.map J.s).map V.str := by rw [List.map_map]; rfl
  rw [e, inV_str, List.any_map]
  cases s with
  | lt n =>
    show ws.any _ = false
    rw [List.any_eq_false]
    intro w _
    show ¬ (w.s == ("letter" : Str)) = true
    cases w <;> decide +kernel
  | nv =>
    show ws.any _ = false
    rw [List.any_eq_false]
    intro w _
    show ¬ (w.s == ("never" : Str)) = true
    cases w <;> decide +kernel
  | bin u a b =>
    show ws.any _ = ws.contains u
    rw [List.contains_eq_any_beq]
    congr 1
    funext w
    show (w.s == u.s) = (u == w)
    cases w <;> cases u <;> decide +kernel
theorem IsSm.at0 {K : PySem.W.Frag} {H : Hp} {v : V} {s : Sm} (h : IsSm K H v s) : ∃ a xs, v = .ref a ∧ SqT K H a xs ∧ atI xs 0 = some (.str s.word) ∧ xs.length = s.len := by
  cases h with
  | lt h => exact ⟨_, _, rfl, h, Ob.at0, rfl⟩
  | nv h => exact ⟨_, _, rfl, h, Ob.at0, rfl⟩
  | bin h _ _ => exact ⟨_, _, rfl, h, Ob.at0, rfl⟩
theorem pa_starK {X : Cx} {K : PySem.W.Frag} {e : Expr} {es : List Expr} {p : Pos} {te : TE} {t : TA} (he : PE X e te) (hr : PA X es t) (hK : X.K = K := by rfl) (hs : starEach (.Starred e p :: es) X.env = (true, eval e X.env) :: starEach es X.env := by rfl) : PA X (.Starred e p :: es) (StX.tStar K te t) := by
  subst hK
  exact StX.pa_star he hr hs
/-- a joint's pieces -/
abbrev It := Sum (List Nat) Sm
def brk (c : Bool) (a : Sm) : List It := if c then [.inl [40], .inr a, .inl [41]] else [.inr a]
def pieces (w : J) (a b : Sm) : List It := brk (a.among (lefts w)) a ++ (.inl w.sp :: brk (b.among (rights w)) b)
def It.txt : It → List Nat
  | .inl t => t
  | .inr s => s.txt
def It.sz : It → Nat
  | .inl _ => 1
  | .inr s => 6 * s.size
def txts (l : List It) : List Nat := l.flatMap It.txt
def itsz (l : List It) : Nat := (l.map It.sz).sum
theorem txts_app (a b : List It) : txts (a ++ b) = txts a ++ txts b := List.flatMap_append
theorem itsz_app (a b : List It) : itsz (a ++ b) = itsz a + itsz b := by
  unfold itsz
  rw [List.map_append, List.sum_append]
theorem txts_cons (a : It) (b : List It) : txts (a :: b) = a.txt ++ txts b := rfl
theorem itsz_cons (a : It) (b : List It) : itsz (a :: b) = a.sz + itsz b := rfl
theorem It.sz_pos (a : It) : 0 < a.sz := by
  cases a with
  | inl t => exact Nat.one_pos
  | inr s =>
    have := s.size_pos
    show 0 < 6 * s.size
    omega
theorem itsz_len : ∀ l : List It, l.length ≤ itsz l
  | [] => Nat.le_refl _
  | a :: r => by
    have h1 := itsz_len r
    have h2 := a.sz_pos
    rw [itsz_cons, List.length_cons]
    omega
theorem txts_brk (c : Bool) (a : Sm) : txts (brk c a) = wrap c a.txt := by
  cases c with
  | true =>
    show [40] ++ (a.txt ++ ([41] ++ [])) = 40 :: (a.txt ++ [41])
    rfl
  | false =>
    show a.txt ++ [] = a.txt
    rw [List.append_nil]
theorem itsz_brk (c : Bool) (a : Sm) : itsz (brk c a) ≤ 6 * a.size + 2 := by
  cases c with
  | true =>
    show 1 + (6 * a.size + (1 + 0)) ≤ _
    omega
  | false =>
    show 6 * a.size + 0 ≤ _
    omega
theorem txts_pieces (w : J) (a b : Sm) : txts (pieces w a b) = (Sm.bin w a b).txt := by
  unfold pieces
  rw [txts_app, txts_cons, txts_brk, txts_brk]
  rfl
theorem itsz_pieces (w : J) (a b : Sm) : itsz (pieces w a b) < 6 * (Sm.bin w a b).size := by
  unfold pieces
  rw [itsz_app, itsz_cons]
  have h1 := itsz_brk (a.among (lefts w)) a
  have h2 := itsz_brk (b.among (rights w)) b
  show itsz (brk _ a) + (1 + itsz (brk _ b)) < 6 * (a.size + b.size + 1)
  omega
/-- an item's value -/
inductive IV (K : PySem.W.Frag) (H : Hp) : V → It → Prop where
  | txt (t : List Nat) : IV K H (.str (S t)) (.inl t)
  | st {v : V} {s : Sm} : IsSm K H v s → IV K H v (.inr s)
theorem J.sp_s (w : J) : ((Str.empty ++ (" " : Str)) ++ w.s) ++ (" " : Str) = S w.sp := by cases w <;> decide +kernel
theorem join_texts (ts : List (List Nat)) : Txt.join ("" : Str) (ts.map S) = S ts.flatten := by
  have h := SX.join_S [] ts
  have e : ∀ ts : List (List Nat), TL.joinL [] ts = ts.flatten := by
    intro ts
    induction ts with
    | nil => rfl
    | cons p r ih =>
      cases r with
      | nil =>
        show p = [p].flatten
        simp
      | cons q r =>
        show p ++ ([] ++ TL.joinL [] (q :: r)) = _
        rw [ih]
        rfl
  rw [e] at h
  exact h
theorem sum_len (ts : List (List Nat)) : ((ts.map S).map (·.length)).sum = ts.flatten.length := by
  rw [List.map_map, List.length_flatten]
  rfl
def brkV (c : Bool) (v : V) : List V := if c = true then [.str (S [40]), v, .str (S [41])] else [v]
def piecesV (j : J) (a b : Sm) (l r : V) : List V := brkV (a.among (lefts j)) l ++ (.str (S j.sp) :: brkV (b.among (rights j)) r)
theorem brkV_len (c : Bool) (v : V) : (brkV c v).length ≤ 3 := by cases c <;> simp [brkV]
theorem brkV_iv {K : PySem.W.Frag} {H : Hp} {v : V} {s : Sm} (c : Bool) (h : IsSm K H v s) : Paired (IV K H) (brkV c v) (brk c s) := by
  cases c with
  | true => exact .cons (.txt _) (.cons (.st h) (.cons (.txt _) .nil))
  | false => exact .cons (.st h) .nil
theorem piecesV_iv {K : PySem.W.Frag} {H : Hp} {l r : V} {a b : Sm} (j : J) (hl : IsSm K H l a) (hr : IsSm K H r b) : Paired (IV K H) (piecesV j a b l r) (pieces j a b) :=
  pair_app (brkV_iv _ hl) (.cons (.txt _) (brkV_iv _ hr))
end Ob

/-! ### an exception out of a comprehension -/
namespace Ob
open PySem PySem.Spec PyProof.Rows L2

theorem funs_but {B h h' : Heap} {C : Addr} (sb : Heap.SameBut C h h') : ∀ {l : List Env}, h.FunFrames B l → (∀ L ∈ frs l, L ≠ C) → h'.FunFrames B l
  | [], _, _ => trivial
  | env :: l, hl, hn => by
    obtain ⟨hk, ⟨L, o, hf, h1, ho, hd⟩, hr⟩ := hl
    have hL : L ∈ frs (env :: l) := List.mem_filterMap.mpr ⟨env, List.mem_cons_self, hf⟩
    exact ⟨hk, ⟨L, o, hf, h1, by rw [sb.2 L (hn L hL)]; exact ho, hd⟩, funs_but sb hr fun b hb => hn b (by
      obtain ⟨e, he, q⟩ := List.mem_filterMap.mp hb
      exact List.mem_filterMap.mpr ⟨e, List.mem_cons_of_mem _ he, q⟩)⟩
theorem funs_less {B B' h : Heap} (k : ∀ b, B.get? b = none → B'.get? b = none) : ∀ {l : List Env}, h.FunFrames B l → h.FunFrames B' l
  | [], _ => trivial
  | env :: l, hl => by
    obtain ⟨hk, ⟨L, o, hf, h1, ho, hd⟩, hr⟩ := hl
    exact ⟨hk, ⟨L, o, hf, k L h1, ho, hd⟩, funs_less k hr⟩
/-- a callee's exception within a comprehension's block goes on to the def's own air -/
theorem block_out {X : Cx} {pins pins' : List (Addr × Obj)} {σ σ' : L2.St} {H3 H9 : Hp} {s3 s9 s' : Shared} {scope : Scope} {fp : List Addr} {E : XK} {W : WX} {u : Value} {E' : Value → Shared → Prop} (hs : X.stack = X.env :: X.outer) (hf : X.env.frame = some X.env.locals)
    (tk : Takes X W) (hW : ∀ cls d σ H, E cls d H → W cls d σ H) (I3 : Inv X pins σ H3 s3) (ce : Env) (cL : ce.locals = s3.heap.objs.size) (cF : ce.frame = X.env.frame) (f3 : ∀ b ∈ fp, FpOk X pins H3 b ∧ b < s3.heap.objs.size)
    (I9 : Inv (X.blk s3 H3 scope ce fp) pins' σ' H9 s9) (c : CX X.prog X.w X.stack H9 s9 E u s') :
    wpAny (model X.prog X.w) X.A (noteFrame u ce) (fun _ s2 => ∃ m, s2.heap.Ns ce.locals m ∧ ∀ h', Heap.SameBut ce.locals s2.heap h' → wpAny (model X.prog X.w) X.A (PySem.passOn "comprehension.variables-let-go" u ce : Sem Value) (fun _ _ => False) X.xe { s2 with heap := h' }) E' s' := by
  obtain ⟨a, B, H', cls, d, rfl, fl, hok, ub, na, os, ag, hE⟩ := c
  obtain ⟨C, hC⟩ : ∃ C, ce.locals = C := ⟨_, rfl⟩
  have eC : C = s3.heap.objs.size := hC.symm.trans cL
  have fsE : (X.blk s3 H3 scope ce fp).fs = frs X.stack := rfl
  have bas : Un (frs X.stack) fp H3 H9 s3.heap s9.heap := I9.base
  -- the frames stand below the block
  have lowF : ∀ L ∈ frs X.stack, L ≠ C := fun L hL z => by
    obtain ⟨_, o, ho, _⟩ := I3.stack.mem hL
    have h1 := Heap.lt_size ho
    rw [z, eC] at h1
    exact absurd h1 (Nat.lt_irrefl _)
  obtain ⟨m9, hn9, _⟩ := I9.loc
  have hn9 : s9.heap.Ns C m9 := by
    rw [← hC]
    exact hn9
  have free9 : H9 C = none := by
    rw [← hC]
    exact I9.free
  obtain ⟨oC, esC, epC, hoC, hdC, hrC⟩ := id hn9
  have freeC : H' C = none := ub.free C oC hoC free9
  have gC : B.get? C = some oC := ub.keep C oC hoC free9 fun z => lowF C z rfl
  -- the ground without the block's own names
  obtain ⟨B', hB'⟩ : ∃ B', B' = PySem.W.hideAll B [C] := ⟨_, rfl⟩
  have b1 : ∀ b o, B'.get? b = some o → B.get? b = some o := fun b o e => PySem.W.of_hideAll [C] (by rw [← hB']; exact e)
  have b2 : ∀ b o, b ≠ C → B.get? b = some o → B'.get? b = some o := fun b o n e => by
    rw [hB']
    exact PySem.W.hideAll_get [C] e (by simpa using n)
  have b3 : ∀ b, B.get? b = none → B'.get? b = none := fun b e => by
    cases q : B'.get? b with
    | none => rfl
    | some o =>
      rw [b1 b o q] at e
      cases e
  have b4 : B'.get? C = none := by
    rw [hB']
    exact PySem.W.hideAll_none [C] (by simp)
  have fl' : HandSPX.FlyingZ B' (X.env :: X.outer) a (Zc cls d) s'.heap := by
    obtain ⟨k1, k2, k3, oe, vs, T, oT, ts, he, hz, hd, h1, hnT, hTe, hT, hdT, h3⟩ := fl
    rw [hs] at k3
    exact ⟨fun b o e => k1 b o (b1 b o e), b3 a k2, funs_less b3 k3, oe, vs, T, oT, ts, he, hz, hd, h1, b3 T hnT, hTe, hT, hdT, h3⟩
  have stB : B.StaysIn s'.heap := fl.1
  have hfr : X.A.frames = some (X.env :: X.outer) := by rw [I3.ok.frames, hs]
  have cF' : ce.frame = some X.env.locals := cF.trans hf
  have same : noteFrame (.ref a) ce = noteFrame (.ref a) X.env := by
    unfold PySem.noteFrame PySem.frameOf
    rw [cF]
  rw [same]
  -- the state on the ground
  obtain ⟨G, g1, g2⟩ := restrict s'.heap fun b => (B'.get? b).isSome || decide (b ∈ frs X.stack)
  have gB : ∀ b o, B'.get? b = some o → G.get? b = some o := fun b o e => by
    rw [g1 b (by simp [e])]
    exact stB b o (b1 b o e)
  have gF : ∀ b, b ∈ frs X.stack → G.get? b = s'.heap.get? b := fun b hb => g1 b (by simp [hb])
  have og : ∀ b o, G.get? b = some o → s'.heap.get? b = some o ∧ ((B'.get? b).isSome = true ∨ b ∈ frs X.stack) := fun b o e => by
    cases q : ((B'.get? b).isSome || decide (b ∈ frs X.stack)) with
    | false =>
      rw [g2 b q] at e
      cases e
    | true =>
      rw [g1 b q] at e
      exact ⟨e, by simpa [Bool.or_eq_true] using q⟩
  have oldC : ∀ b o, s3.heap.get? b = some o → b ≠ C := fun b o e z => by
    have h1 := Heap.lt_size e
    rw [z, eC] at h1
    exact absurd h1 (Nat.lt_irrefl _)
  have hokG : HOk X.prog X.w H' G := fun b o q => (hok b o q).stay (fun c v hc r => by
    refine gB c v (b2 c v (fun z => ?_) r)
    rcases hc with z2 | z2
    · rw [← z2, z, freeC] at q
      cases q
    · rw [z, freeC] at z2
      cases z2) (fun _ r => r) fun _ _ r => r
  have IG : Inv X pins σ H' { s9 with heap := G, gens := s'.gens, drawn := s'.drawn, toks := s'.toks } := by
    refine I3.call' (ch := fp) I9.os ⟨fun b o e n hb hx => ?_, fun b o e n hb hx => ?_, fun b o e n hx => ?_, fun b o e hx => ?_, fun b xs e => ub.tups b xs (bas.tups b xs e), fun b o xs e => ub.frzs b o xs (bas.frzs b o xs e), fun b ps e => ?_⟩ hokG ag fun b hb => ⟨(f3 b hb).1.2.2.2.1, (f3 b hb).1.2.1, (f3 b hb).1.2.2.2.2.1, (f3 b hb).1.2.2.2.2.2⟩
    · exact gB b o (b2 b o (oldC b o e) (ub.keep b o (bas.keep b o e n hb hx) (bas.free b o e n hx) hb))
    · obtain ⟨sl, e1⟩ := bas.slot b o e n hb hx
      obtain ⟨sl2, e2⟩ := ub.slot b _ e1 hb
      exact ⟨sl2, by rw [gF b hb]; exact e2⟩
    · obtain ⟨o', e1⟩ := bas.there b o e hx
      exact ub.free b o' e1 (bas.free b o e n hx)
    · obtain ⟨o', e1⟩ := bas.there b o e hx
      by_cases hb : b ∈ frs X.stack
      · obtain ⟨sl2, e2⟩ := ub.slot b _ e1 hb
        exact ⟨_, by rw [gF b hb]; exact e2⟩
      · obtain ⟨o2, e2⟩ := ub.there b o' e1 hb
        exact ⟨o2, gB b o2 (b2 b o2 (oldC b o e) e2)⟩
    · obtain ⟨m1, e1⟩ := bas.tbls b ps e
      obtain ⟨m2, e2⟩ := ub.tbls b _ e1
      exact ⟨m1 ++ m2, by rw [e2, Array.append_assoc]⟩
  refine HandSPX.looks_onZ Zc.steady hfr hf fl' fun h1 hh up => ?_
  have hC1 : h1.get? C = s'.heap.get? C ∨ ∃ sl, h1.get? C = some { oC with slots := sl } := by
    refine .inr (up C oC (stB C oC gC) fun vs z => ?_)
    rw [hdC] at z
    cases z
  refine ⟨m9, ?_, fun h2 sb => ?_⟩
  · rw [hC]
    rcases hC1 with q | ⟨sl, q⟩
    · exact ⟨oC, esC, epC, by rw [q]; exact stB C oC gC, hdC, hrC⟩
    · exact ⟨_, esC, epC, q, hdC, hrC⟩
  · rw [hC] at sb
    have hh2 : HandSPX.HeldZ B' (X.env :: X.outer) a (Zc cls d) X.env.locals h2 := by
      obtain ⟨k1, k2, k3, oe, vs, T, oT, ts, he, hz, hd, q1, hnT, hTe, hT, hdT, q3⟩ := hh
      have dict_no : ∀ b o vs, h1.get? b = some o → o.data = .fields vs → b ≠ C := fun b o vs e e2 z => by
        rcases hC1 with q | ⟨sl, q⟩
        · rw [z, q, stB C oC gC] at e
          cases e
          rw [hdC] at e2
          cases e2
        · rw [z, q] at e
          cases e
          have e3 : oC.data = .fields vs := e2
          rw [hdC] at e3
          cases e3
      refine ⟨fun b o e => ?_, k2, funs_but sb k3 (fun L hL => lowF L (by rw [hs]; exact hL)), oe, vs, T, oT, ts, ?_, hz, hd, q1, hnT, hTe, ?_, hdT, q3⟩
      · rw [sb.2 b (fun z => by rw [z, b4] at e; cases e)]
        exact k1 b o e
      · rw [sb.2 a (dict_no a oe vs he hd)]
        exact he
      · rw [sb.2 T (dict_no T oT ts hT hdT)]
        exact hT
    have up2 : G.UpToSlots h2 := fun b o e hn => by
      obtain ⟨e1, e2⟩ := og b o e
      have nC : b ≠ C := fun z => by
        rcases e2 with e2 | e2
        · rw [z, b4] at e2
          cases e2
        · exact lowF b e2 z
      obtain ⟨sl, q⟩ := up b o e1 hn
      exact ⟨sl, by rw [sb.2 b nC]; exact q⟩
    obtain ⟨_, _, _, oe, vs, T, _, _, he, _, hd, q1, _⟩ := id hh2
    unfold PySem.passOn
    refine wpAny_bind (wpAny_field he hd q1 ?_)
    rw [if_neg (by simp)]
    refine wpAny_bind ?_
    rw [cF']
    refine HandSPX.setFlight_onZ hh2 fun h3 hh3 up3 => wpAny_throw (tk _ _ ⟨a, B', _, pins, σ, H', cls, d, rfl, IG, fun b o e hb => ?_, up2.trans up3, ?_, na, ?_, ag, hW _ _ _ _ hE⟩)
    · obtain ⟨e1, e2⟩ := og b o e
      rcases e2 with e2 | e2
      · obtain ⟨o', q⟩ := Option.isSome_iff_exists.mp e2
        have z := stB b o' (b1 b o' q)
        rw [e1] at z
        cases z
        exact q
      · exact absurd e2 hb
    · rw [hs]
      exact .inr (.inr hh3)
    · exact os

/-- what a comprehension's run is to reach, the block's own names at hand -/
def postX (M : Model) (A : Around) (E : Value → Shared → Prop) (Q : Value → Shared → Prop) (acc : Value) (ce : Env) (r : Result) (s' : Shared) : Prop :=
  match r with
  | .ok _ => ∃ m, s'.heap.Ns ce.locals m ∧ ∀ h', Heap.SameBut ce.locals s'.heap h' → Q acc { s' with heap := h' }
  | .error x => ∃ m, s'.heap.Ns ce.locals m ∧ ∀ h', Heap.SameBut ce.locals s'.heap h' → wpAny M A (PySem.passOn "comprehension.variables-let-go" x ce : Sem Value) (fun _ _ => False) E { s' with heap := h' }
theorem comp_raise {M : Model} {A : Around} {E : Value → Shared → Prop} {s : Shared} {env : Env} {e : Expr} {scope : Scope} {pos : Pos} {newAcc first : Sem Value} {g : Comprehension} {gs : List Comprehension} {cl : List (Str × Addr)} {Q : Value → Shared → Prop}
    (hcl : clausesOf e = g :: gs) (hs : ∀ x, foldedSetIterable g.iter env x = pure x) (hclos : closureFor scope env = pure cl) (hkind : scope.kind = .function)
    (hnames : ∀ x ∈ scope.names, x.2 = .local → scope.names.lookup x.1 = some .local)
    (h : wpAny M A first (fun x s1 => wpAny M A (pyIter x) (fun it s2 => wpAny M A newAcc (fun acc s3 => wpAny M A (newFunctionEnv scope env.globals cl [] env.qual none .none (some env))
      (fun cenv s4 => codeAny M A (.compStart e 0 it acc { cenv with scope := relabel scope env }) (postX M A E Q acc { cenv with scope := relabel scope env }) s4) E s3) E s2) E s1) E s) :
    wpAny M A (comprehension e scope env pos newAcc false first none) Q E s := by
  have id2 : ∀ (x : Value) (s : Shared), E x s → E x s := fun _ _ z => z
  unfold comprehension
  rw [hclos, hcl]
  refine wpAny_bind (wpAny_mono h (fun x s1 h1 => wpAny_bind (wpAny_standAt (wpAny_bind (wpAny_of_eq (hs x) ?_)))) id2)
  refine wpAny_bind (wpAny_holding (wpAny_mono h1 (fun it s2 h2 => wpAny_standIf (wpAny_bind (wpAny_mono h2 (fun acc s3 h3 => wpAny_bind (wpAny_pure (wpAny_bind (wpAny_mono h3 (fun cenv s4 h4 => ?_) id2)))) id2))) id2))
  dsimp only
  have hv : ∀ x ∈ (scope.names.filter fun x => (x.2 == .local || x.2 == .cell) && x.1 != (".0" : Str)).reverse, x.2 = .local → Env.kindOf { cenv with scope := relabel scope env } x.1 = some .local := fun x hx hl =>
    lookup_relabel_local (hnames x (List.mem_filter.mp (List.mem_reverse.mp hx)).1 hl)
  refine wpAny_holding (wpAny_bind (wpAny_attempt (wpAny_holding (wpAny_run (codeAny_mono h4 fun r s' hr => ?_)))))
  cases r with
  | ok f =>
    obtain ⟨m, hn, hr⟩ := hr
    exact wpAny_bind (wpAny_holding (wpAny_comp_letGo (cenv := { cenv with scope := relabel scope env }) hkind _ s' m hv hn fun h' _ _ sb => wpAny_pure (hr h' sb)))
  | error x =>
    obtain ⟨m, hn, hr⟩ := hr
    exact wpAny_bind (wpAny_holding (wpAny_comp_letGo (cenv := { cenv with scope := relabel scope env }) hkind _ s' m hv hn fun h' _ _ sb => wpAny_mono (hr h' sb) (fun _ _ z => z.elim) id2))
/-- what comes out of a callee within the block -/
def XC (X : Cx) (E : XK) (s3 : Shared) (H3 : Hp) (scope : Scope) (ce : Env) (fp : List Addr) : Value → Shared → Prop := fun e s' =>
  ∃ (pins : List (Addr × Obj)) (σ : L2.St) (H : Hp) (s : Shared), Inv (X.blk s3 H3 scope ce fp) pins σ H s ∧ CX X.prog X.w X.stack H s E e s'
theorem xc_passes {X : Cx} {E : XK} {s3 : Shared} {H3 : Hp} {scope : Scope} {ce : Env} {fp : List Addr} : Passes (CX X.prog X.w) ((X.blk s3 H3 scope ce fp).wish (XC X E s3 H3 scope ce fp)) E := fun pins σ H s _ _ I c => ⟨pins, σ, H, s, I.unwish, c⟩
theorem pe_lcX {X : Cx} {E : XK} {W : WX} {elt tg iter : Expr} {ifs : List Expr} {scope : Scope} {own : List (Str × Nat)} {pos : Pos} {wi : TI} {g : TG} {tt : TT} {te : TE} (hstk : X.stack = X.env :: X.outer) (hfrm : X.env.frame = some X.env.locals) (tk : Takes X W) (hW : ∀ cls d σ H, E cls d H → W cls d σ H)
    (hc : X.calm = true) (hN : X.N.Nodup) (hi : PI X tg iter wi) (ok : BlkOk X.N X.env.scope scope own)
    (hg : ∀ (s : Shared) (H : Hp) (C : Addr) (cl : List (Str × Addr)) (fp : List Addr), PG (X.blk s H scope (compEnvC scope cl C X.env) fp) tg g) (ht : ∀ (s : Shared) (H : Hp) (C : Addr) (cl : List (Str × Addr)) (fp : List Addr), PTs (X.blk s H scope (compEnvC scope cl C X.env) fp) ifs tt)
    (he : ∀ (s : Shared) (H : Hp) (C : Addr) (cl : List (Str × Addr)) (fp : List Addr), PE ((X.blk s H scope (compEnvC scope cl C X.env) fp).wish (XC X E s H scope (compEnvC scope cl C X.env) fp)) elt te)
    (hs : ∀ x, foldedSetIterable iter X.env x = pure x := by intro _; rfl) : PE X (.ListComp elt [⟨tg, iter, ifs, 0⟩] scope pos) (tLc wi g tt te (own.map (·.2))) := by
  refine ⟨fun pins s σ H Q I h => ?_⟩
  rw [eval_ListComp]
  have hfree : ∀ y ∈ scope.names, y.2 = .free → ∃ c, X.env.cells.lookup y.1 = some c := fun y hy e => (ok.free y hy e).elim (fun k => I.ok.has _ (.inl k)) fun k => I.ok.has _ (.inr k)
  refine comp_raise rfl hs (closure_ok hfree) ok.kind (fun y hy e => by rw [ok.uniq y hy, e]) (thn (hi.run pins s σ H _ I h) fun xv s1 hx => thn hx fun itv s2 h2 => ?_)
  obtain ⟨it, fp, tn, J, H2, e, I2, T, st2, f2, q⟩ := h2
  subst e
  refine wpAny_newObj_type (newEnv_comp ?_) (by show 0 ≤ sizeLine; decide)
  obtain ⟨D, hD⟩ : ∃ D, s2.heap.objs.size = D := ⟨_, rfl⟩
  rw [hD]
  have hDn : H2 D = none := I2.hok.fresh (Nat.le_of_eq hD)
  obtain ⟨W0, ⟨m0, w0⟩, turn⟩ := q D hDn
  obtain ⟨s3, hs3⟩ : ∃ s3 : Shared, ({ s2 with heap := s2.heap.push { cls := .type "list", data := .seq ([] : List Value).toArray } } : Shared) = s3 := ⟨_, rfl⟩
  rw [hs3]
  have h3 : s3.heap = s2.heap.push { cls := .type "list", data := .seq ([] : List Value).toArray } := by rw [← hs3]
  obtain ⟨H3, hH3⟩ : ∃ H3, upd H2 D (.lst []) = H3 := ⟨_, rfl⟩
  rw [hH3] at w0
  have I3 : Inv X pins σ H3 s3 := by
    rw [← hs3, ← hH3]
    exact I2.laid (t' := s2.toks) (fun b o e => Heap.get?_push_of_some _ e) (Nat.le_of_eq hD) ⟨Nat.zero_le _, [], 0, .nil, by rw [← hD]; exact Heap.get?_push_size _ rfl⟩
  have f3 : ∀ b ∈ fp, FpOk X pins H3 b ∧ b < s3.heap.objs.size := fun b hb => by
    obtain ⟨o, e, _⟩ := T.obj _ _ st2 b hb
    have hlt := Heap.lt_size e
    refine ⟨⟨?_, (f2 b hb).2⟩, by rw [h3, Heap.size_push]; exact Nat.lt_succ_of_lt hlt⟩
    rw [← hH3, upd_ne (by rw [← hD]; exact Nat.ne_of_lt hlt)]
    exact (f2 b hb).1
  have st3 : tn 0 s3.heap := T.keep _ _ _ st2 fun b _ o e => by rw [h3]; exact Heap.get?_push_of_some _ e
  have I4 := block_start I3 ok hN f3
  obtain ⟨cl, hcl⟩ : ∃ cl, cellsFrom (s3.heap.objs.size + 1) scope.names (cloFrom X.env.cells scope.names []) = cl := ⟨_, rfl⟩
  rw [hcl] at I4
  have pg := hg s3 H3 s3.heap.objs.size cl fp
  have pt := ht s3 H3 s3.heap.objs.size cl fp
  have pe := he s3 H3 s3.heap.objs.size cl fp
  obtain ⟨s4, hs4⟩ : ∃ s4 : Shared, ({ s3 with heap := pushCells (s3.heap.push { cls := .type "dict", data := .dict #[] }) scope.names } : Shared) = s4 := ⟨_, rfl⟩
  have goal : codeAny (model X.prog X.w) X.A (.compStart (.ListComp elt [⟨tg, iter, ifs, 0⟩] scope pos) 0 (.ref it) (.ref D) (compEnvC scope cl s3.heap.objs.size X.env)) (postX (model X.prog X.w) X.A X.xe (EP X pins σ Q) (.ref D) (compEnvC scope cl s3.heap.objs.size X.env)) s4 := by
    rw [hs4] at I4
    have cL : (compEnvC scope cl s3.heap.objs.size X.env).locals = s3.heap.objs.size := rfl
    have cF : (compEnvC scope cl s3.heap.objs.size X.env).frame = X.env.frame := rfl
    generalize compEnvC scope cl s3.heap.objs.size X.env = ce at I4 pg pt pe cL cF ⊢
    have st4 : tn 0 s4.heap := T.keep _ _ _ st3 fun b _ o e => by rw [← hs4]; exact pushCells_keeps _ _ _ _ (Heap.get?_push_of_some _ e)
    have stat : ∀ {σ' : L2.St} {H' : Hp} {s' : Shared}, Inv (X.blk s3 H3 scope ce fp) [] σ' H' s' → (∀ b ∈ fp, H' b = none) → ∀ b ∈ fp, FpOk (X.blk s3 H3 scope ce fp) [] H' b := fun I' hn b hb =>
      ⟨hn b hb, (I'.ok.exf b hb).1, I'.ok.exfs b hb, .inl hb, fun x c e => (I'.ok.exf b hb).2 x c e, fun p hp => absurd (show p ∈ ([] : List (Addr × Obj)) ++ [] from hp) (by simp)⟩
    have loop : codeAny (model X.prog X.w) X.A (.compLoop (.ListComp elt [⟨tg, iter, ifs, 0⟩] scope pos) 0 (.ref it) (.ref D) ce) (postX (model X.prog X.w) X.A X.xe (EP X pins σ Q) (.ref D) ce) s4 := by
      refine compLoop_any (fun n s' => ∃ i H', Inv (X.blk s3 H3 scope ce fp) [] (wipe σ (own.map (·.2))) H' s' ∧ tn i s'.heap ∧ (∀ b ∈ fp, H' b = none) ∧ W0 i n H') ?_ m0 ⟨0, H3, I4, st4, fun b hb => (f3 b hb).1.1, w0⟩
      rintro n s5 ⟨i, H5, I5, st5, n5, w5⟩
      rcases turn i n H5 w5 with ⟨stop, qq⟩ | ⟨go, Nx, hNx, step⟩
      · refine thnF (T.done (X.blk s3 H3 scope ce fp) rfl rfl rfl hc i [] s5 _ H5 (fun _ _ => False) I5 (stat I5 n5) st5 stop) fun r s6 ⟨hr, I6⟩ => ?_
        subst hr
        have I7 : Inv X pins σ H5 s6 := I3.call' (ch := fp) I6.os I6.base I6.hok I6.bare fun b hb => ⟨(f3 b hb).1.2.2.2.1, (f3 b hb).1.2.1, (f3 b hb).1.2.2.2.2.1, (f3 b hb).1.2.2.2.2.2⟩
        obtain ⟨m, hn, _⟩ := I6.loc
        have nC : H5 s3.heap.objs.size = none := by
          rw [← cL]
          exact I6.free
        refine ⟨m, hn, fun h'' sb => ?_⟩
        rw [cL] at sb
        obtain ⟨k0, k1, k2, k3, k4, k5⟩ := I3.fpOk (Nat.le_refl _) nC
        exact ⟨.ref D, H5, I7.turned (t' := s6.toks) (fun b o hb e => (sb.2 b hb).trans e) k0 k1 k3 k4 k5, rfl, qq⟩
      · refine thnF (T.item (X.blk s3 H3 scope ce fp) rfl rfl rfl hc i [] s5 _ H5 (fun _ _ => False) I5 (stat I5 n5) st5 go) fun r s6 ⟨u, hr, h6⟩ => ?_
        subst hr
        refine thnF h6 fun _ s7 ⟨x, H7, I7, r7, y7, st7, n7⟩ => ?_
        refine thnF (pg.run _ s7 _ H7 x u _ (I7.pinned (stat I7 n7) (T.obj _ _ st7)) r7 (step x H7 y7)) fun _ s8 ⟨σ8, H8, I8, hw8, q8⟩ => ?_
        refine thnF (pt.run _ s8 σ8 H8 _ I8 q8) fun b s9 ⟨H9, I9, q9⟩ => ?_
        have fin : ∀ {s' : Shared} {H' : Hp}, Inv (X.blk s3 H3 scope ce fp) ([] ++ pinsAt fp s7.heap) σ8 H' s' → Nx H' → ∃ m, m < n ∧ ∃ i H', Inv (X.blk s3 H3 scope ce fp) [] (wipe σ (own.map (·.2))) H' s' ∧ tn i s'.heap ∧ (∀ b ∈ fp, H' b = none) ∧ W0 i m H' := fun {s' H'} I' nx => by
          obtain ⟨m', hm, w'⟩ := hNx H' nx
          have pin' : ∀ b ∈ fp, ∀ o, s7.heap.get? b = some o → s'.heap.get? b = some o ∧ H' b = none := fun b hb o e =>
            ⟨(I'.pin (b, o) (List.mem_append_right _ (List.mem_append_right _ (mem_pinsAt hb e)))).1, (I'.pin (b, o) (List.mem_append_right _ (List.mem_append_right _ (mem_pinsAt hb e)))).2.1⟩
          refine ⟨m', hm, i + 1, H', (I'.unpinned (pins := [])).weak (by rw [← hw8, wipe_length]) (fun j v e => ?_), T.keep _ _ _ st7 fun b hb o e => (pin' b hb o e).1, fun b hb => ?_, w'⟩
          · rw [← hw8] at e
            exact (wipe_some e).1
          · obtain ⟨o, e, _⟩ := T.obj _ _ st7 b hb
            exact (pin' b hb o e).2
        cases b with
        | false =>
          simp only [Bool.false_eq_true, if_false] at q9 ⊢
          exact fin I9 q9
        | true =>
          simp only [if_true] at q9 ⊢
          refine wpAny_mono (pe.run _ s9 σ8 H9 _ (I9.wish _) q9) (fun z s10 ⟨yv, H10, I10, r10, acc, hD10, hz10, nx⟩ => app_ok (X := X.blk s3 H3 scope ce fp) I10.unwish hD10 hz10 r10 fun s11 I11 => fin I11 nx) fun x s10 hx => ?_
          obtain ⟨pins', σ', H', sB, IB, c⟩ := hx
          exact block_out (E' := fun e s'' => postX (model X.prog X.w) X.A X.xe (EP X pins σ Q) (.ref D) ce (.error e) s'') hstk hfrm tk hW I3 ce cL cF f3 IB c
    exact codeAny_compStart_list loop (T.self X.A 0 _ _ _ st4 loop)
  rw [← hs4, ← hcl] at goal
  exact goal
end Ob

/-! ### a star in a target, defs that raise, a text without what is to be replaced -/
namespace Ob
open PySem PySem.Spec PyProof.Rows L2

theorem star_items {prog : Program} {w : World} {A : Around} {E : Value → Shared → Prop} {s : Shared} {l : Addr} {items : Array Value} {n i : Nat} {Q : List Value → Shared → Prop} (hl : s.heap.IsList l items) (hh : A.handled = none) (hi : i < n) (hn : n ≤ items.size + 1) (hz : items.size ≤ sizeLine)
    (h : ∀ h' tk, Heap.ExtBut s.heap.objs.size s.heap h' → (∀ b o, b ≠ s.heap.objs.size → s.heap.get? b = some o → h'.get? b = some o) →
      wpAny (model prog w) A (newList ((items.toList.drop i).take (items.size + 1 - n))) (fun d s2 => Q (items.toList.take i ++ [d] ++ (items.toList.drop i).drop (items.size + 1 - n)) s2) E { s with heap := h', toks := tk }) :
    wpAny (model prog w) A (unpackItems (.ref l) n (some i)) Q E s := by
  have hlt : l ≠ s.heap.objs.size := by obtain ⟨o, ho, _⟩ := hl; exact Nat.ne_of_lt (Heap.lt_size ho)
  unfold unpackItems
  refine wpAny_bind ?_
  unfold notIterableAtAll
  refine wpAny_bind (wpAny_specialOf hl.typeIs slot_list_iter.lookup ?_)
  refine wpAny_pure ?_
  simp only [Bool.false_eq_true, if_false]
  refine wpAny_bind (wpAny_holding (wpAny_pyIter_list hl ?_))
  refine wpAny_bind (wpAny_holding (PySem.W.kun_draw hlt i 0 _ _ ⟨_, Heap.get?_push_size _ rfl, rfl, rfl⟩ (hl.push _) (by omega) fun h₁ hit₁ hs₁ => ?_))
  have hl₁ : h₁.IsList l items := (hl.push _).extBut hs₁.extBut hlt
  rw [Nat.zero_add] at hit₁
  obtain ⟨oi, hoi, _⟩ := id hit₁
  obtain ⟨ol, hol, _⟩ := id hl₁
  rw [List.drop_zero]
  have hfl : (items.toList.take i).length = i := by rw [List.length_take, Array.length_toList]; omega
  rw [if_neg (show ¬ ((items.toList.take i).length < i) by rw [hfl]; omega)]
  refine wpAny_bind (wpAny_holding (PySem.W.kun_collect (s := { s with heap := h₁ }) (T := "list_iterator") (.inr (.inr (.inl rfl))) (Walks.list (A := A.in1) hh s.heap.objs.size l hlt items) (fun j u st => st.1.typeIs) (k := i) (by omega) ⟨hit₁, hl₁⟩ (Heap.lt_size hoi) (Heap.lt_size hol) (fun h₂ tk hk => ?_) hz))
  have hrl : (items.toList.drop i).length = items.size - i := by rw [List.length_drop, Array.length_toList]
  have hmid : (items.toList.drop i).length - (n - 1 - i) = items.size + 1 - n := by rw [hrl]; omega
  show wpAny _ _ (if (items.toList.drop i).length < n - 1 - i then _ else _) _ _ _
  rw [if_neg (by rw [hrl]; omega)]
  show wpAny _ _ (newList ((items.toList.drop i).take ((items.toList.drop i).length - (n - 1 - i))) >>= fun d => pure (items.toList.take i ++ [d] ++ (items.toList.drop i).drop ((items.toList.drop i).length - (n - 1 - i)))) _ _ _
  rw [hmid]
  have he : ∀ b o, b ≠ s.heap.objs.size → s.heap.get? b = some o → h₂.get? b = some o := fun b o hb e => hk b o hb (hs₁.extBut b o hb (Heap.get?_push_of_some _ e))
  exact wpAny_bind (wpAny_mono (h h₂ tk he he) (fun d s2 q => wpAny_pure q) fun _ _ z => z)
/-- a, *b, c = a list -/
def gStar (K : PySem.W.Frag) (i j : Nat) (t : TGs) : TG := fun v σ H Q => ∃ a f m z, v = .ref a ∧ SqL K H a (f ++ (m ++ z)) ∧ f.length = i ∧ z.length = j ∧ ∀ D, H D = none → t (f ++ [.ref D] ++ z) σ (upd H D (.lst m)) Q
theorem vals_take {vs : List V} {us : List Value} (r : Vals vs us) : ∀ n, Vals (vs.take n) (us.take n) := by
  induction r with
  | nil => intro n; rw [List.take_nil, List.take_nil]; exact .nil
  | cons h t ih =>
    intro n
    cases n with
    | zero => exact .nil
    | succ n => exact .cons h (ih n)
theorem vals_drop {vs : List V} {us : List Value} (r : Vals vs us) : ∀ n, Vals (vs.drop n) (us.drop n) := by
  induction r with
  | nil => intro n; rw [List.drop_nil, List.drop_nil]; exact .nil
  | cons h t ih =>
    intro n
    cases n with
    | zero => exact .cons h t
    | succ n => exact ih n
theorem pg_star {X : Cx} {pos : Pos} {es : List Expr} {k : Nat} {t : TGs} {i j : Nat} (hc : X.calm = true) (h : PGs X es t)
    (hn : (assignEach es X.env).length = i + j + 1 := by rfl) (hst : (assignEach es X.env).findIdx? (·.1) = some i := by rfl) : PG X (.Tuple es k pos) (gStar X.K i j t) := by
  refine ⟨fun pins s σ H v u Q I r hw => ?_⟩
  obtain ⟨a, f, m, z, e1, hq, lf, lz, hw⟩ := hw
  subst e1
  cases r
  obtain ⟨its, rv, pl, hz⟩ := I.list hq
  have hl' : s.heap.IsList a its.toArray := by
    obtain ⟨o, m, e, c, d, q⟩ := pl
    exact ⟨o, e, c, m, q⟩
  have ln : its.length = i + (m.length + j) := by rw [← rv.length, List.length_append, List.length_append, lf, lz]
  rw [rv.length, ln] at hz
  have hsz : its.toArray.size = i + (m.length + j) := by rw [List.size_toArray, ln]
  have cnt : its.toArray.size + 1 - (i + j + 1) = m.length := by rw [hsz]; omega
  rw [PyProof.Rows.assign_Tuple]
  refine wpAny_bind (wpAny_standAt ?_)
  unfold unpack
  rw [hn, hst]
  refine wpAny_bind (wpAny_holding (star_items hl' (I.ok.hd hc) (by omega) (by omega) (by rw [hsz]; exact hz) fun h' tk _ hx => ?_))
  rw [cnt]
  have I1 : Inv X pins σ H { s with heap := h', toks := tk } := I.kept fun b o e => hx b o (Nat.ne_of_lt (Heap.lt_size e)) e
  have r1 : Vals f (its.take i) := by
    have q := vals_take rv i
    rw [← lf, List.take_left] at q
    rw [← lf]
    exact q
  have r2 : Vals (m ++ z) (its.drop i) := by
    have q := vals_drop rv i
    rw [← lf, List.drop_left] at q
    rw [← lf]
    exact q
  have r3 : Vals m ((its.drop i).take m.length) := by
    have q := vals_take r2 m.length
    rw [List.take_left] at q
    exact q
  have r4 : Vals z ((its.drop i).drop m.length) := by
    have q := vals_drop r2 m.length
    rw [List.drop_left] at q
    exact q
  have fit : ((its.drop i).take m.length).length ≤ sizeLine := by
    rw [← r3.length]
    omega
  refine wpAny_newList ?_ fit
  obtain ⟨D, hD⟩ : ∃ D, h'.objs.size = D := ⟨_, rfl⟩
  have hDn : H D = none := I1.hok.fresh (Nat.le_of_eq hD)
  have I2 : Inv X pins σ (upd H D (.lst m)) { s with heap := h'.push { cls := .type "list", data := .seq ((its.drop i).take m.length).toArray }, toks := tk } := by
    refine I1.laid (t' := tk) (fun b o e => Heap.get?_push_of_some _ e) (Nat.le_of_eq hD) ⟨by rw [r3.length]; exact fit, (its.drop i).take m.length, 0, r3, by rw [← hD]; exact Heap.get?_push_size _ rfl⟩
  have fin := h.run pins _ σ (upd H D (.lst m)) (f ++ [.ref D] ++ z) (its.take i ++ [.ref D] ++ (its.drop i).drop m.length) Q I2 ((r1.append (Paired.cons (show RelV (.ref D) (.ref D) from rfl) .nil)).append r4) (hw D hDn)
  rw [← hD] at fin
  exact fin
theorem pgs_star {X : Cx} {e : Expr} {p : Pos} {es : List Expr} {t : TG} {u : TGs} (h1 : PG X e t) (h2 : PGs X es u)
    (hs : (assignEach (.Starred e p :: es) X.env).map (·.2) = assign e X.env :: (assignEach es X.env).map (·.2) := by rfl) : PGs X (.Starred e p :: es) (gCons t u) := by
  refine ⟨fun pins s σ H vs us Q I r h => ?_⟩
  obtain ⟨v, vr, e1, h⟩ := h
  subst e1
  cases r with
  | cons r rr =>
    rw [hs]
    refine assignInOrder_cons (thn (h1.run pins s σ H _ _ _ I r h) fun _ s1 ⟨σ1, H1, I1, q1⟩ => ?_)
    exact h2.run pins s1 σ1 H1 _ _ Q I1 rr q1

/-! ### a text without what is to be replaced -/
theorem no_occ {x y : Str} (h : ∀ i, ¬ StrLaws.At x y x.length i) : Builtin.Str.occurrences x y 0 x.length (x.length + 1) = [] := by
  rcases StrLaws.occ_head x y (x.length + 1) (by omega) with ⟨e, _⟩ | ⟨i, r, _, ha, _⟩
  · exact e
  · exact absurd ha (h i)
theorem no_at {l : List Nat} {c : Nat} (h : c ∉ l) : ∀ i, ¬ StrLaws.At (S l) (S [c]) (S l).length i := fun i ha => by
  have q := StrLaws.at_take (k := i) ha
  have q' : (l.drop i).take 1 = [c] := q
  have hm : c ∈ (l.drop i).take 1 := by rw [q']; exact List.mem_singleton.mpr rfl
  exact h (List.mem_of_mem_drop (List.mem_of_mem_take hm))

theorem replace_none {prog : Program} {w : World} {A : Around} {E : Value → Shared → Prop} {s : Shared} {x y z : Str} {t u v : Tok} {Q : Value → Shared → Prop} (ho : Builtin.Str.occurrences x y 0 x.length (x.length + 1) = []) (hq : Q (.str x t) s) :
    wpAny (model prog w) A (call (.builtin "str.replace") [.str x t, .str y u, .str z v]) Q E s := by
  have hc : ((Builtin.Str.occurrences x y 0 x.length (x.length + 1)).isEmpty || (y.length == 0 && z.length == 0)) = true := by rw [ho]; rfl
  refine call_gives F.slot_str_replace (typeIs_str _ _ _) F.entry_str_replace (F.args_str_replace_3 _ _ _) (gives_str_replace x y z t u v fun q => by rw [hc] at q; cases q) ?_
  rw [if_pos hc]
  exact hq
/-- o.replace("c", "..") of a text without c -/
theorem pe_repl0 {X : Cx} {o : Expr} {to : TE} {y z : Str} {j k : Nat} {c0 c1 apos pos : Pos} (ho : PE X o to)
    (hst : starEach [.Constant (.str y) j c0, .Constant (.str z) k c1] X.env = [(false, eval (.Constant (.str y) j c0) X.env), (false, eval (.Constant (.str z) k c1) X.env)] := by rfl)
    (hbase : attributeBase o "replace" X.env (eval o X.env) = eval o X.env := by rfl) (hline : (apos.endLine == pos.line) = true := by rfl) :
    PE X (.Call (.Attribute o "replace" apos) [.Constant (.str y) j c0, .Constant (.str z) k c1] [] pos) (fun σ H Q => to σ H fun v H1 => ∃ x, v = .str x ∧ Builtin.Str.occurrences x y 0 x.length (x.length + 1) = [] ∧ Q (.str x) H1) := by
  refine ⟨fun pins s σ H Q I h => ?_⟩
  refine PySem.Call_method2 hbase hst hline (thn (ho.run pins s σ H _ I h) fun v s1 q => ?_)
  obtain ⟨v', H1, I1, r1, x, e1, hb, q⟩ := q
  subst e1
  obtain ⟨tx, e2⟩ := r1
  subst e2
  refine ⟨"str", _, PySem.F.plainAttrs_str, PySem.F.slot_str_replace, PySem.F.type_str_replace, typeIs_str _ _ _, (fun _ e => nomatch e), Calls.callWith_builtin rfl (Calls.evalArgs_plain (Calls.spliced_cons ?_))⟩
  refine Calls.Constant_str (Calls.spliced_cons (Calls.Constant_str (Calls.spliced_nil ?_)))
  exact replace_none hb ⟨.str x, H1, (I1.tok _).tok _, ⟨tx, rfl⟩, q⟩
theorem spl_no {l : List Nat} (h : (32 : Nat) ∉ l) : ∀ acc, TL.spl [32] 0 acc l = [acc ++ l] := by
  induction l with
  | nil => intro acc; rw [TL.spl_nil, List.append_nil]
  | cons c r ih =>
    intro acc
    have hc : c ≠ 32 := fun e => h (by rw [e]; exact List.mem_cons_self ..)
    rw [TL.spl_miss (by
      show ((c :: r).take 1 == [32]) = false
      simp [hc]), ih (fun z => h (List.mem_cons_of_mem _ z)), List.append_assoc]
    rfl
/-! ### the class of what is raised -/
structure NT (K : PySem.W.Frag) (mg : Str → Option Value) (C : Addr) : Prop where
  gC : mg "NoText" = some (.ref C)
  xC : PySem.W.excIn K C [.type "ValueError", .type "Exception", .type "BaseException", .type "object"] "ValueError.__new__" = true
  kC : PySem.W.keepIn K (.ref C) = true
  bC : PySem.W.subIn K (.ref C) (.type "BaseException") = some true
  tC : PySem.W.typeIn K (.ref C) = some (.type "type")
  iC : PySem.W.isClsIn K C = true
  sC : PySem.W.subIn K (.ref C) (.ref C) = some true
theorem NT.uniq {K : PySem.W.Frag} {mg : Str → Option Value} {C D : Addr} (a : NT K mg C) (b : NT K mg D) : C = D := by
  have q := a.gC.symm.trans b.gC
  injection q with q
  injection q
theorem NT.eC {K : PySem.W.Frag} {mg : Str → Option Value} {C : Addr} (a : NT K mg C) : PySem.W.exmOne K (.ref C) (.ref C) = some true := by
  have hi := a.iC
  unfold PySem.W.isClsIn at hi
  unfold PySem.W.exmOne PySem.W.kitCls
  rw [a.bC, if_pos (by rfl)]
  show (if ((PySem.W.clsIn K C).isSome && PySem.W.typeIn K (Value.ref C) == some (Value.type "type")) = true then PySem.W.subIn K (Value.ref C) (Value.ref C) else none) = some true
  rw [if_pos (by rw [hi, a.tC]; rfl), a.sC]
/-- a def's promise, where it may raise -/
structure ClX (P : Program) (w : World) (K : PySem.W.Frag) (mg : Str → Option Value) (base : Heap) (k : Nat) (x : Str) (sp : Sp) : Prop where
  ex : ∃ (f : Addr) (fd : FuncData) (ps : List Str), FnOk P w K mg base (L2.CX P w) k f fd ps sp ∧ mg x = some (.ref f) ∧ PySem.W.keepIn K (.ref f) = true ∧ Binds K fd ps []
section
variable {P : Program} {w : World} {K : PySem.W.Frag} {mg : Str → Option Value} {base : Heap}
theorem Df.okX {x : Str} {st : Stmt} {ps N : List Str} {k : Nat} {sp : Sp} (D : Df K mg x st ps) (S : FnScope N ps (defScope st)) (len : ∀ vs H Q E, sp vs H Q E → vs.length = ps.length)
    (hbody : ∀ (f : Addr) (cdv : Value) (A : Around) (outer : List Env) (s : Shared) (H : Hp) (vs : List V) (Q : VK) (E : XK), Room k (A.deeper (envOfC x (defScope st) s.heap.objs.size f cdv)) → sp vs H Q E →
      ∃ t, PSs (cxOf (L2.CX P w) P w K mg base N x (defScope st) f cdv A outer s H E) (defBody st) t ∧ t { nx := fun _ H' => Q .non H', rt := Q } (start N vs) H) : ClX P w K mg base (k + 1) x sp := by
  obtain ⟨f, fd, F, m, b⟩ := D.ex
  exact ⟨f, fd, ps, F.okX S len (hbody f), m, F.kp, b⟩
theorem ClX.mono {j k : Nat} {x : Str} {sp : Sp} (c : ClX P w K mg base j x sp) (h : j ≤ k) : ClX P w K mg base k x sp := by
  obtain ⟨f, fd, ps, F, m, kp, b⟩ := c.ex
  exact ⟨f, fd, ps, F.mono h, m, kp, b⟩
end
section
variable {X : Cx}
theorem pe_kX {k j : Nat} {x : Str} {sp : Sp} {E : XK} {p pos : Pos} {e : Expr} {es : List Expr} {t : TA} (c : ClX X.prog X.w X.K X.mg X.base k x sp) (hr : Room j X.A) (hk : k ≤ j) (hx : Passes (L2.CX X.prog X.w) X E) (hg : Gl X x) (ha : PA X (e :: es) t)
    (hdb : (x == ("__debug__" : Str)) = false := by decide) (he : starEach (e :: es) X.env = (false, eval e X.env) :: starEach es X.env := by rfl) (hpl : (backTo pos (starEach es X.env)).any (·.1) = false := by rfl) : PE X (.Call (.Name x p) (e :: es) [] pos) (tCall sp [] E t) := by
  obtain ⟨f, fd, ps, F, m, kp, b⟩ := c.ex
  exact pe_call F (hr.mono hk) hg m kp b .nil hx ha hdb he hpl
theorem pe_kS {k j : Nat} {x : Str} {sp : Sp} {E : L2.St → XK} {p pos : Pos} {e : Expr} {es : List Expr} {t : TA} (c : ClX X.prog X.w X.K X.mg X.base k x sp) (hr : Room j X.A) (hk : k ≤ j) (hx : ∀ σ, PassesAt (L2.CX X.prog X.w) X σ (E σ)) (hg : Gl X x) (ha : PA X (e :: es) t)
    (hdb : (x == ("__debug__" : Str)) = false := by decide) (he : starEach (e :: es) X.env = (false, eval e X.env) :: starEach es X.env := by rfl) (hpl : (backTo pos (starEach es X.env)).any (·.1) = false := by rfl) : PE X (.Call (.Name x p) (e :: es) [] pos) (tCallS sp E t) := by
  obtain ⟨f, fd, ps, F, m, kp, b⟩ := c.ex
  exact pe_callS F (hr.mono hk) hg m kp b hx ha hdb he hpl
end

/-! ### a text walked -/
theorem lc_str {l : List Nat} {g : TG} {tt : TT} {te : TE} {vs : List Nat} {σ : L2.St} {H1 : Hp} {D : Addr} {Qd : Hp → Prop} (Pv : Nat → Hp → Prop) (h0 : Pv 0 (upd H1 D (.lst [])))
    (hs : ∀ i c H, l[i]? = some c → Pv i H → g (.str (S [c])) (wipe σ vs) H fun σ2 H2 => wipe σ2 vs = wipe σ vs ∧ tt σ2 H2 fun b H3 =>
      if b = true then te σ2 H3 fun y H4 => ∃ acc, H4 D = some (.lst acc) ∧ acc.length < sizeLine ∧ Pv (i + 1) (upd H4 D (.lst (acc ++ [y]))) else Pv (i + 1) H3) (hd : ∀ H, Pv l.length H → Qd H) :
    ∃ W : Nat → Nat → Hp → Prop, (∃ m, W 0 m (upd H1 D (.lst []))) ∧ ∀ i m H, W i m H →
      ((Its (S l)).stop i H ∧ Qd H) ∨ ((Its (S l)).go i H ∧ ∃ Nx : Hp → Prop, (∀ H', Nx H' → ∃ m', m' < m ∧ W (i + 1) m' H') ∧ ∀ x H', (Its (S l)).yld i H x H' → g x (wipe σ vs) H' fun σ2 H2 => wipe σ2 vs = wipe σ vs ∧ tt σ2 H2 fun b H3 =>
        if b = true then te σ2 H3 fun y H4 => ∃ acc, H4 D = some (.lst acc) ∧ acc.length < sizeLine ∧ Nx (upd H4 D (.lst (acc ++ [y]))) else Nx H3) := by
  refine ⟨fun i m H => m = l.length - i ∧ i ≤ l.length ∧ Pv i H, ⟨l.length, by simp, Nat.zero_le _, h0⟩, ?_⟩
  rintro i m H ⟨rfl, hi, p⟩
  by_cases hlt : i < l.length
  · refine .inr ⟨show i < (S l).cps.size by show i < l.toArray.size; rw [List.size_toArray]; exact hlt, Pv (i + 1), fun H' p' => ⟨l.length - (i + 1), by omega, rfl, hlt, p'⟩, fun x H' y => ?_⟩
    obtain ⟨e, c, hc, ex⟩ := y
    subst e ex
    have hc' : l[i]? = some c := by
      have q : l.toArray[i]? = some c := hc
      rw [List.getElem?_toArray] at q
      exact q
    exact hs i c _ hc' p
  · have e : i = l.length := by omega
    subst e
    exact .inl ⟨show (S l).cps.size ≤ l.length by show l.toArray.size ≤ _; rw [List.size_toArray]; exact Nat.le_refl _, hd H p⟩
theorem for_str {l : List Nat} {g : TG} {tb : TS} {D : Ends} {σ : L2.St} {H : Hp} (Pv : Nat → L2.St → Hp → Prop) (h0 : Pv 0 σ H)
    (hs : ∀ i c σ H, l[i]? = some c → Pv i σ H → g (.str (S [c])) σ H fun σ2 H2 => tb { D with nx := Pv (i + 1), ct := Pv (i + 1), bk := D.nx } σ2 H2) (hd : ∀ σ H, Pv l.length σ H → D.nx σ H) :
    ∃ W : Nat → Nat → L2.St → Hp → Prop, (∃ m, W 0 m σ H) ∧ ∀ i m σ H, W i m σ H →
      ((Its (S l)).stop i H ∧ D.nx σ H) ∨ ((Its (S l)).go i H ∧ ∃ N : L2.St → Hp → Prop, (∀ σ' H', N σ' H' → ∃ m', m' < m ∧ W (i + 1) m' σ' H') ∧ ∀ x H', (Its (S l)).yld i H x H' → g x σ H' fun σ2 H2 => tb { D with nx := N, ct := N, bk := D.nx } σ2 H2) := by
  refine ⟨fun i m σ H => m = l.length - i ∧ i ≤ l.length ∧ Pv i σ H, ⟨l.length, by simp, Nat.zero_le _, h0⟩, ?_⟩
  rintro i m σ H ⟨rfl, hi, p⟩
  by_cases hlt : i < l.length
  · refine .inr ⟨show i < (S l).cps.size by show i < l.toArray.size; rw [List.size_toArray]; exact hlt, Pv (i + 1), fun σ' H' p' => ⟨l.length - (i + 1), by omega, rfl, hlt, p'⟩, fun x H' y => ?_⟩
    obtain ⟨e, c, hc, ex⟩ := y
    subst e ex
    have hc' : l[i]? = some c := by
      have q : l.toArray[i]? = some c := hc
      rw [List.getElem?_toArray] at q
      exact q
    exact hs i c _ _ hc' p
  · have e : i = l.length := by omega
    subst e
    exact .inl ⟨show (S l).cps.size ≤ l.length by show l.toArray.size ≤ _; rw [List.size_toArray]; exact Nat.le_refl _, hd σ H p⟩
/-! ### what is a name -/
def kept : List V := [.str "and", .str "or", .str "then", .str "never"]
def joints : List V := [.str "and", .str "or", .str "then"]
def nmB (l : List Nat) : Bool := decide (1 ≤ l.length) && (decide (l.length ≤ 8) && (!inV (.str (S l)) kept && l.all fun c => decide (97 ≤ c) && decide (c ≤ 122)))
theorem nmB_iff {l : List Nat} : nmB l = true ↔ Nm l := by
  unfold nmB
  rw [Bool.and_eq_true, Bool.and_eq_true, Bool.and_eq_true, decide_eq_true_eq, decide_eq_true_eq, Bool.not_eq_true', List.all_eq_true]
  constructor
  · rintro ⟨h1, h2, h3, h4⟩
    exact nm_no h1 h2 (fun c hc => by
      have q := h4 c hc
      rw [Bool.and_eq_true, decide_eq_true_eq, decide_eq_true_eq] at q
      exact q) (by rw [show inV (.str (S l)) [.str "and", .str "or", .str "then", .str "never"] = false from h3]; exact Bool.false_ne_true)
  · intro h
    refine ⟨h.lo, h.hi, ?_, fun c hc => ?_⟩
    · cases e : inV (.str (S l)) kept with
      | false => rfl
      | true =>
        rcases kept_cases e with rfl | rfl | rfl | rfl
        · exact absurd (by decide +kernel) h.free.1
        · exact absurd (by decide +kernel) h.free.2.1
        · exact absurd (by decide +kernel) h.free.2.2.1
        · exact absurd (by decide +kernel) h.free.2.2.2
    · rw [Bool.and_eq_true, decide_eq_true_eq, decide_eq_true_eq]
      exact h.abc c hc
theorem le_sign (a b : Nat) : (!decide ((S [b]).cps.toList < (S [a]).cps.toList)) = decide (a ≤ b) := by
  show (!decide (([b] : List Nat) < [a])) = decide (a ≤ b)
  by_cases h : a ≤ b
  · rw [decide_eq_true h, decide_eq_false (fun z => by
      rcases List.cons_lt_cons_iff.mp z with q | ⟨_, q⟩
      · omega
      · cases q)]
    rfl
  · rw [decide_eq_false h, decide_eq_true (show ([b] : List Nat) < [a] from List.cons_lt_cons_iff.mpr (.inl (by omega)))]
    rfl
end Ob

/-! ### rows of joints and statements -/
namespace Ob
open PySem PySem.Spec PyProof.Rows L2

/-- an item of a row: a joint's word or a statement -/
abbrev RI := Sum J Sm
inductive RV (K : PySem.W.Frag) (H : Hp) : V → RI → Prop where
  | j (w : J) : RV K H (.str w.s) (.inl w)
  | s {v : V} {s : Sm} : IsSm K H v s → RV K H v (.inr s)
theorem RV.same {K : PySem.W.Frag} {H H' : Hp} (e : Same H H') {v : V} {r : RI} (h : RV K H v r) : RV K H' v r := by
  cases h with
  | j w => exact .j w
  | s h => exact .s (h.same e)
def RI.data : RI → PyData
  | .inl w => .str w.s
  | .inr s => s.data
def RI.Ok (r : RI) : Prop := match r with
  | .inl _ => True
  | .inr s => s.In Ch
theorem RV.dp {K : PySem.W.Frag} {H : Hp} {v : V} {r : RI} (h : RV K H v r) : Dp K H v (RI.data r) := by
  cases h with
  | j w => exact .str _
  | s h => exact h.dp
theorem RI.lay {r : RI} (h : RI.Ok r) : (RI.data r).canLay0 = true := by
  cases r with
  | inl w =>
    show (PyData.str w.s).canLay0 = true
    rw [PyData.canLay0]
    exact w.ok
  | inr s => exact Sm.lay h
theorem eqv_ts (xs : List PyData) (b : Str) : PyData.eqv (.tuple xs) (.str b) = false := by rw [PyData.eqv] <;> simp
theorem RI.eqv (r : RI) (w : J) : PyData.eqv (RI.data r) (.str w.s) = decide (r = .inl w) := by
  cases r with
  | inl u =>
    show PyData.eqv (.str u.s) (.str w.s) = _
    rw [eqv_s]
    cases u <;> cases w <;> decide +kernel
  | inr s =>
    rw [decide_eq_false (fun z => nomatch z)]
    cases s with
    | lt n => exact eqv_ts _ _
    | nv => exact eqv_ts _ _
    | bin u a b => exact eqv_ts _ _
theorem depth_str (d : PyData) (s : Str) : min d.depth (PyData.str s).depth ≤ 64 := Nat.le_trans (Nat.min_le_right _ _) (by simp [PyData.depth])
/-- a row cut at a joint -/
def cutGo (w : J) : List (List RI) → List RI → List RI → List (List RI)
  | ds, c, [] => ds ++ [c]
  | ds, c, r :: rs => if r = .inl w then cutGo w (ds ++ [c]) [] rs else cutGo w ds (c ++ [r]) rs
def cutAt (w : J) (row : List RI) : List (List RI) := cutGo w [] [] row
theorem cutGo_len (w : J) : ∀ (row ds c), (cutGo w ds c row).length ≤ ds.length + row.length + 1
  | [], ds, c => by
    show (ds ++ [c]).length ≤ _
    rw [List.length_append]
    exact Nat.le_refl _
  | r :: rs, ds, c => by
    show (if r = .inl w then cutGo w (ds ++ [c]) [] rs else cutGo w ds (c ++ [r]) rs).length ≤ _
    by_cases h : r = .inl w
    · rw [if_pos h]
      have q := cutGo_len w rs (ds ++ [c]) []
      rw [List.length_append] at q
      rw [List.length_cons]
      have e : [c].length = 1 := rfl
      omega
    · rw [if_neg h]
      have q := cutGo_len w rs ds (c ++ [r])
      rw [List.length_cons]
      omega
theorem cutGo_all {p : RI → Prop} (w : J) : ∀ (row : List RI) (ds : List (List RI)) (c : List RI), (∀ r ∈ row, p r) → (∀ r ∈ c, p r) → (∀ d ∈ ds, ∀ r ∈ d, p r) → ∀ d ∈ cutGo w ds c row, ∀ r ∈ d, p r
  | [], ds, c, h1, h2, h3 => fun d hd => by
    rcases List.mem_append.mp (show d ∈ ds ++ [c] from hd) with z | z
    · exact h3 d z
    · rw [List.mem_singleton.mp z]
      exact h2
  | r :: rs, ds, c, h1, h2, h3 => fun d hd => by
    have hd' : d ∈ if r = .inl w then cutGo w (ds ++ [c]) [] rs else cutGo w ds (c ++ [r]) rs := hd
    by_cases h : r = .inl w
    · rw [if_pos h] at hd'
      refine cutGo_all w rs (ds ++ [c]) [] (fun x hx => h1 x (List.mem_cons_of_mem _ hx)) (fun x hx => nomatch hx) (fun e he => ?_) d hd'
      rcases List.mem_append.mp he with z | z
      · exact h3 e z
      · rw [List.mem_singleton.mp z]
        exact h2
    · rw [if_neg h] at hd'
      refine cutGo_all w rs ds (c ++ [r]) (fun x hx => h1 x (List.mem_cons_of_mem _ hx)) (fun x hx => ?_) h3 d hd'
      rcases List.mem_append.mp hx with z | z
      · exact h2 x z
      · rw [List.mem_singleton.mp z]
        exact h1 r (List.mem_cons_self ..)
/-- no part is longer than the row -/
theorem cutGo_part (w : J) : ∀ (row : List RI) (ds : List (List RI)) (c : List RI) (n : Nat), c.length + row.length ≤ n → (∀ d ∈ ds, d.length ≤ n) → ∀ d ∈ cutGo w ds c row, d.length ≤ n
  | [], ds, c, n, h1, h2 => fun d hd => by
    rcases List.mem_append.mp (show d ∈ ds ++ [c] from hd) with z | z
    · exact h2 d z
    · rw [List.mem_singleton.mp z]
      exact Nat.le_trans (Nat.le_add_right _ _) h1
  | r :: rs, ds, c, n, h1, h2 => fun d hd => by
    have hd' : d ∈ if r = .inl w then cutGo w (ds ++ [c]) [] rs else cutGo w ds (c ++ [r]) rs := hd
    rw [List.length_cons] at h1
    by_cases h : r = .inl w
    · rw [if_pos h] at hd'
      refine cutGo_part w rs (ds ++ [c]) [] n (by rw [List.length_nil]; omega) (fun e he => ?_) d hd'
      rcases List.mem_append.mp he with z | z
      · exact h2 e z
      · rw [List.mem_singleton.mp z]
        omega
    · rw [if_neg h] at hd'
      refine cutGo_part w rs ds (c ++ [r]) n (by rw [List.length_append]; show c.length + 1 + _ ≤ n; omega) h2 d hd'
/-- the value v is the row -/
def RR (K : PySem.W.Frag) (H : Hp) (v : V) (row : List RI) : Prop := ∃ a xs, v = .ref a ∧ H a = some (.lst xs) ∧ Paired (RV K H) xs row
theorem RR.same {K : PySem.W.Frag} {H H' : Hp} (e : Same H H') {v : V} {row : List RI} (h : RR K H v row) : RR K H' v row := by
  obtain ⟨a, xs, rfl, ha, hp⟩ := h
  exact ⟨a, xs, rfl, e _ _ ha, pair_map (fun _ _ r => r.same e) hp⟩
theorem pair_refs {β : Type} {R : Addr → β → Prop} {S : V → β → Prop} {ds : List Addr} {rs : List β} (h : Paired R ds rs) (hs : ∀ d r, R d r → S (.ref d) r) : Paired S (ds.map V.ref) rs := by
  induction h with
  | nil => exact .nil
  | cons r _ ih => exact .cons (hs _ _ r) ih
/-! ### what is read of a row -/
def thingO (row : List RI) : Option Sm := match row with
  | [.inr s] => some s
  | _ => none
def allO {α β : Type} (f : α → Option β) : List α → Option (List β)
  | [] => some []
  | a :: r => match f a, allO f r with
    | some b, some bs => some (b :: bs)
    | _, _ => none
theorem allO_one {α β : Type} (f : α → Option β) {a : α} {b : β} (h : f a = some b) : allO f [a] = some [b] := by
  simp only [allO, h]
theorem allO_app {α β : Type} (f : α → Option β) : ∀ (xs ys : List α) {us vs : List β}, allO f xs = some us → allO f ys = some vs → allO f (xs ++ ys) = some (us ++ vs)
  | [], ys, us, vs, h1, h2 => by
    have e : us = [] := (Option.some.inj h1).symm
    rw [e]
    exact h2
  | a :: r, ys, us, vs, h1, h2 => by
    unfold allO at h1
    split at h1
    · rename_i b bs e1 e2
      have e : us = b :: bs := (Option.some.inj h1).symm
      subst e
      show (match f a, allO f (r ++ ys) with
        | some b, some bs => some (b :: bs)
        | _, _ => none) = _
      rw [e1, allO_app f r ys e2 h2]
      rfl
    · cases h1
theorem allO_none {α β : Type} (f : α → Option β) : ∀ {xs : List α} {a : α}, a ∈ xs → f a = none → allO f xs = none
  | [], _, h, _ => nomatch h
  | b :: r, a, h, e => by
    unfold allO
    rcases List.mem_cons.mp h with rfl | h
    · rw [e]
    · rw [allO_none f h e]
      cases f b <;> rfl
theorem allO_len {α β : Type} (f : α → Option β) : ∀ {xs : List α} {us : List β}, allO f xs = some us → us.length = xs.length
  | [], us, h => by
    rw [← Option.some.inj h]
    rfl
  | a :: r, us, h => by
    unfold allO at h
    split at h
    · rename_i b bs e1 e2
      rw [← Option.some.inj h, List.length_cons, List.length_cons, allO_len f e2]
    · cases h
theorem allO_mem {α β : Type} (f : α → Option β) : ∀ {xs : List α} {us : List β}, allO f xs = some us → ∀ u ∈ us, ∃ a ∈ xs, f a = some u
  | [], us, h, u, hu => by
    rw [← Option.some.inj h] at hu
    cases hu
  | a :: r, us, h, u, hu => by
    unfold allO at h
    split at h
    · rename_i b bs e1 e2
      rw [← Option.some.inj h] at hu
      rcases List.mem_cons.mp hu with rfl | hu
      · exact ⟨a, List.mem_cons_self .., e1⟩
      · obtain ⟨x, hx, e⟩ := allO_mem f e2 u hu
        exact ⟨x, List.mem_cons_of_mem _ hx, e⟩
    · cases h
def fromLeft (w : J) : List Sm → Option Sm
  | [] => none
  | s :: r => some (r.foldl (fun a b => .bin w a b) s)
def fromRight : List Sm → Option Sm
  | [] => none
  | s :: r => match fromRight r with
    | none => some s
    | some t => some (.bin .thn s t)
def andsO (row : List RI) : Option Sm := (allO thingO (cutAt .and row)).bind (fromLeft .and)
def orsO (row : List RI) : Option Sm := (allO andsO (cutAt .or row)).bind (fromLeft .or)
def rowO (row : List RI) : Option Sm := (allO orsO (cutAt .thn row)).bind fromRight
theorem cutGo_ne (w : J) : ∀ (row ds c), cutGo w ds c row ≠ []
  | [], ds, c => by
    show ds ++ [c] ≠ []
    simp
  | r :: rs, ds, c => by
    show (if r = .inl w then cutGo w (ds ++ [c]) [] rs else cutGo w ds (c ++ [r]) rs) ≠ []
    by_cases h : r = .inl w
    · rw [if_pos h]
      exact cutGo_ne w rs _ _
    · rw [if_neg h]
      exact cutGo_ne w rs _ _
/-- the cut leaves no such joint -/
theorem cutGo_no (w : J) : ∀ (row : List RI) (ds : List (List RI)) (c : List RI), (∀ r ∈ c, r ≠ .inl w) → (∀ d ∈ ds, ∀ r ∈ d, r ≠ .inl w) → ∀ d ∈ cutGo w ds c row, ∀ r ∈ d, r ≠ .inl w
  | [], ds, c, h2, h3 => fun d hd => by
    rcases List.mem_append.mp (show d ∈ ds ++ [c] from hd) with z | z
    · exact h3 d z
    · rw [List.mem_singleton.mp z]
      exact h2
  | r :: rs, ds, c, h2, h3 => fun d hd => by
    have hd' : d ∈ if r = .inl w then cutGo w (ds ++ [c]) [] rs else cutGo w ds (c ++ [r]) rs := hd
    by_cases h : r = .inl w
    · rw [if_pos h] at hd'
      refine cutGo_no w rs (ds ++ [c]) [] (fun x hx => nomatch hx) (fun e he => ?_) d hd'
      rcases List.mem_append.mp he with z | z
      · exact h3 e z
      · rw [List.mem_singleton.mp z]
        exact h2
    · rw [if_neg h] at hd'
      refine cutGo_no w rs ds (c ++ [r]) (fun x hx => ?_) h3 d hd'
      rcases List.mem_append.mp hx with z | z
      · exact h2 x z
      · rw [List.mem_singleton.mp z]
        exact h
theorem cutAt_no (w : J) (row : List RI) : ∀ d ∈ cutAt w row, ∀ r ∈ d, r ≠ .inl w := cutGo_no w row [] [] (fun _ h => nomatch h) (fun _ h => nomatch h)
theorem cutAt_all {p : RI → Prop} (w : J) {row : List RI} (h : ∀ r ∈ row, p r) : ∀ d ∈ cutAt w row, ∀ r ∈ d, p r := cutGo_all w row [] [] h (fun _ h => nomatch h) (fun _ h => nomatch h)
theorem cutAt_part (w : J) (row : List RI) : ∀ d ∈ cutAt w row, d.length ≤ row.length := cutGo_part w row [] [] row.length (by rw [List.length_nil]; omega) (fun _ h => nomatch h)
theorem cutAt_len (w : J) (row : List RI) : (cutAt w row).length ≤ row.length + 1 := by
  have q := cutGo_len w row [] []
  rw [List.length_nil] at q
  show (cutGo w [] [] row).length ≤ _
  omega
/-! ### a comprehension over the parts -/
theorem lc_parts {K : PySem.W.Frag} {mg : Str → Option Value} {p : Addr} {ps : List V} {parts : List (List RI)} {f : List RI → Option Sm} {H1 : Hp} {D : Addr} {Qd : Hp → Prop} {sp : Sp} {E : XK} {i : Nat} {σ : L2.St}
    (hp : H1 p = some (.lst ps)) (hps : Paired (RR K H1) ps parts) (nD : H1 D = none) (hlen : parts.length ≤ 90001)
    (hw : ∀ v, wipe ((wipe σ [i]).set i (some v)) [i] = wipe σ [i]) (hr : ∀ v, ((wipe σ [i]).set i (some v))[i]? = some (some v))
    (hsp : ∀ v row H2 Q, row ∈ parts → RR K H2 v row → (∀ x s H3, f row = some s → Same H2 H3 → IsSm K H3 x s → Q x H3) → (f row = none → ∀ C H3, NT K mg C → Same H2 H3 → E (.ref C) none H3) → sp [v] H2 Q E)
    (hE : allO f parts = none → ∀ C H3, NT K mg C → Same H1 H3 → E (.ref C) none H3)
    (hQ : ∀ ss xs H3, allO f parts = some ss → Same H1 H3 → H3 D = some (.lst xs) → Paired (IsSm K H3) xs ss → Qd H3) :
    ∃ W : Nat → Nat → Hp → Prop, (∃ m, W 0 m (upd H1 D (.lst []))) ∧ ∀ n m H, W n m H →
      ((Itl K p).stop n H ∧ Qd H) ∨ ((Itl K p).go n H ∧ ∃ Nx : Hp → Prop, (∀ H', Nx H' → ∃ m', m' < m ∧ W (n + 1) m' H') ∧ ∀ x H', (Itl K p).yld n H x H' → (gName i) x (wipe σ [i]) H' fun σ2 H2 => wipe σ2 [i] = wipe σ [i] ∧ tYes σ2 H2 fun b H3 =>
        if b = true then (tCall sp [] E (tCons (tVar i) tNil)) σ2 H3 fun y H4 => ∃ acc, H4 D = some (.lst acc) ∧ acc.length < sizeLine ∧ Nx (upd H4 D (.lst (acc ++ [y]))) else Nx H3) := by
  refine lc_list (K := K) (a := p) (xs := ps) (fun n H2 => ∃ (xs : List V) (ss : List Sm), H2 D = some (.lst xs) ∧ allO f (parts.take n) = some ss ∧ Paired (IsSm K H2) xs ss ∧ Same H1 H2) ?_ ?_ ?_ ?_
  · exact ⟨[], [], upd_same, rfl, .nil, same_new nD⟩
  · rintro n H2 hn ⟨xs, ss, _, _, _, sm⟩
    exact SqL.of (sm _ _ hp)
  · rintro n x H2 hx ⟨xs, ss, hD, hss, hxs, sm⟩
    obtain ⟨row, hrow, hrr⟩ := pair_get hps hx
    have hm : row ∈ parts := List.mem_of_getElem? hrow
    have hlt : n < parts.length := (List.getElem?_eq_some_iff.mp hrow).1
    refine ⟨hw x, ⟨_, hr x, hsp x row H2 _ hm (hrr.same sm) (fun y s H3 hs s3 hy => ?_) (fun hn C H3 nt s3 => hE (allO_none f hm hn) C H3 nt (sm.trans s3))⟩⟩
    have hD3 := s3 _ _ hD
    have tk : TK K H3 (upd H3 D (.lst (xs ++ [y]))) := TK.lst hD3
    refine ⟨xs, hD3, ?_, xs ++ [y], ss ++ [s], upd_same, ?_, pair_app (pair_map (fun _ _ r => (r.same s3).tk tk) hxs) (.cons (hy.tk tk) .nil), same_put (sm.trans s3) nD⟩
    · rw [pair_len hxs, allO_len f hss, List.length_take]
      exact small (by omega)
    · rw [List.take_add_one, hrow]
      exact allO_app f _ _ hss (allO_one f hs)
  · rintro H2 ⟨xs, ss, hD, hss, hxs, sm⟩
    rw [pair_len hps, List.take_length] at hss
    exact hQ ss xs H2 hss sm hD hxs
theorem pair_snoc {α β : Type} {R : α → β → Prop} : ∀ (ms : List β) {t : β} {xs : List α}, Paired R xs (ms ++ [t]) → ∃ xm x, xs = xm ++ [x] ∧ Paired R xm ms ∧ R x t
  | [], t, xs, h => by
    cases h with
    | cons r rest =>
      cases rest
      exact ⟨[], _, rfl, .nil, r⟩
  | m :: ms, t, xs, h => by
    cases h with
    | cons r rest =>
      obtain ⟨xm, x, rfl, h1, h2⟩ := pair_snoc ms rest
      exact ⟨_ :: xm, x, rfl, .cons r h1, h2⟩
theorem fromRight_snoc (t : Sm) : ∀ ms : List Sm, fromRight (ms ++ [t]) = some (ms.foldr (fun l acc => .bin .thn l acc) t)
  | [] => rfl
  | m :: ms => by
    show (match fromRight (ms ++ [t]) with
      | none => some m
      | some u => some (Sm.bin .thn m u)) = _
    rw [fromRight_snoc t ms]
    rfl
/-! ### a text's words, and what is read of them -/
def spread (l : List Nat) : List Nat := l.flatMap fun c => if c = 40 then [32, 40, 32] else if c = 41 then [32, 41, 32] else [c]
def wordsOf (l : List Nat) : List (List Nat) := (TL.spl [32] 0 [] (spread l)).filter fun w => !w.isEmpty
def Plain (l : List Nat) : Prop := 40 ∉ l ∧ 41 ∉ l ∧ 32 ∉ l ∧ l.length ≤ 30000
theorem spread_plain : ∀ {l : List Nat}, 40 ∉ l → 41 ∉ l → spread l = l
  | [], _, _ => rfl
  | c :: r, h1, h2 => by
    have e1 : c ≠ 40 := fun z => h1 (by rw [z]; exact List.mem_cons_self ..)
    have e2 : c ≠ 41 := fun z => h2 (by rw [z]; exact List.mem_cons_self ..)
    show (if c = 40 then [32, 40, 32] else if c = 41 then [32, 41, 32] else [c]) ++ spread r = c :: r
    rw [if_neg e1, if_neg e2, spread_plain (fun z => h1 (List.mem_cons_of_mem _ z)) (fun z => h2 (List.mem_cons_of_mem _ z))]
    rfl
theorem words_plain {l : List Nat} (h : Plain l) : wordsOf l = if l = [] then [] else [l] := by
  unfold wordsOf
  rw [spread_plain h.1 h.2.1, spl_no h.2.2.1]
  cases l with
  | nil => rfl
  | cons c r => rfl
def itemO (l : List Nat) : Option RI :=
  if l = [97, 110, 100] then some (.inl .and) else if l = [111, 114] then some (.inl .or) else if l = [116, 104, 101, 110] then some (.inl .thn) else if l = [110, 101, 118, 101, 114] then some (.inr .nv) else if nmB l = true then some (.inr (.lt l)) else none
theorem itemO_j (j : J) {l : List Nat} (h : S l = j.s) : itemO l = some (.inl j) := by
  have e : l = j.s.cps.toList := by rw [← h]
  subst e
  cases j <;> decide +kernel
theorem itemO_ok {l : List Nat} {r : RI} (h : itemO l = some r) : RI.Ok r := by
  unfold itemO at h
  split at h
  · rw [← Option.some.inj h]
    exact True.intro
  split at h
  · rw [← Option.some.inj h]
    exact True.intro
  split at h
  · rw [← Option.some.inj h]
    exact True.intro
  split at h
  · rw [← Option.some.inj h]
    exact True.intro
  split at h
  · rename_i q
    rw [← Option.some.inj h]
    exact (nmB_iff.mp q).ch
  · cases h
theorem itemO_nv : itemO [110, 101, 118, 101, 114] = some (.inr .nv) := by decide +kernel
theorem itemO_nm {l : List Nat} (h : Nm l) : itemO l = some (.inr (.lt l)) := by
  unfold itemO
  rw [if_neg (fun e => h.free.1 (by rw [e]; decide +kernel)), if_neg (fun e => h.free.2.1 (by rw [e]; decide +kernel)), if_neg (fun e => h.free.2.2.1 (by rw [e]; decide +kernel)), if_neg (fun e => h.free.2.2.2 (by rw [e]; decide +kernel)), if_pos (nmB_iff.mpr h)]
theorem itemO_no {l : List Nat} (h1 : ∀ j : J, S l ≠ j.s) (h2 : l ≠ [110, 101, 118, 101, 114]) (h3 : ¬ Nm l) : itemO l = none := by
  unfold itemO
  rw [if_neg (fun e => h1 .and (by rw [e]; decide +kernel)), if_neg (fun e => h1 .or (by rw [e]; decide +kernel)), if_neg (fun e => h1 .thn (by rw [e]; decide +kernel)), if_neg h2, if_neg (fun z => h3 (nmB_iff.mp z))]
def readGo : List (List RI) → List RI → List (List Nat) → Option Sm
  | [], cur, [] => rowO cur
  | _ :: _, _, [] => none
  | below, cur, w :: ws =>
    if w = [40] then readGo (cur :: below) [] ws
    else if w = [41] then match below with
      | [] => none
      | b :: bs => match rowO cur with
        | none => none
        | some s => readGo bs (b ++ [.inr s]) ws
    else match itemO w with
      | none => none
      | some r => readGo below (cur ++ [r]) ws
def readO (l : List Nat) : Option Sm := readGo [] [] (wordsOf l)
theorem RV.tk {K : PySem.W.Frag} {H H' : Hp} (e : TK K H H') {v : V} {r : RI} (h : RV K H v r) : RV K H' v r := by
  cases h with
  | j w => exact .j w
  | s h => exact .s (h.tk e)
def PB (K : PySem.W.Frag) (H : Hp) (bs : List Addr) (br : List (List RI)) : Prop := Paired (fun b r => ∃ ys, H b = some (.lst ys) ∧ Paired (RV K H) ys r) bs br
theorem PB.same {K : PySem.W.Frag} {H H' : Hp} (e : Same H H') {bs : List Addr} {br : List (List RI)} (h : PB K H bs br) : PB K H' bs br := pair_map (fun _ _ q => by
  obtain ⟨ys, h1, h2⟩ := q
  exact ⟨ys, e _ _ h1, pair_map (fun _ _ r => r.same e) h2⟩) h
theorem PB.put {K : PySem.W.Frag} {H : Hp} {a : Addr} {o : HO} (tk : TK K H (upd H a o)) {bs : List Addr} {br : List (List RI)} (h : PB K H bs br) (ha : a ∉ bs) : PB K (upd H a o) bs br := by
  induction h with
  | nil => exact .nil
  | cons r _ ih =>
    obtain ⟨ys, h1, h2⟩ := r
    refine .cons ⟨ys, ?_, pair_map (fun _ _ r => r.tk tk) h2⟩ (ih fun z => ha (List.mem_cons_of_mem _ z))
    rw [upd_ne (fun z => ha (by rw [z]; exact List.mem_cons_self ..))]
    exact h1
theorem PB.some {K : PySem.W.Frag} {H : Hp} {bs : List Addr} {br : List (List RI)} (h : PB K H bs br) : ∀ b ∈ bs, H b ≠ none := by
  induction h with
  | nil => exact fun b hb => nomatch hb
  | cons r _ ih =>
    intro b hb
    rcases List.mem_cons.mp hb with rfl | hb
    · obtain ⟨ys, h1, _⟩ := r
      rw [h1]
      exact fun z => nomatch z
    · exact ih b hb
/-! ### what is read is a statement over the row's -/
theorem allO_in {p : Sm → Prop} (f : List RI → Option Sm) {xs : List (List RI)} {us : List Sm} (h : allO f xs = some us) (q : ∀ x ∈ xs, ∀ u, f x = some u → p u) : ∀ u ∈ us, p u := fun u hu => by
  obtain ⟨a, ha, e⟩ := allO_mem f h u hu
  exact q a ha u e
theorem foldl_in {p : List Nat → Prop} (w : J) : ∀ (r : List Sm) (s : Sm), s.In p → (∀ u ∈ r, u.In p) → (r.foldl (fun a b => Sm.bin w a b) s).In p
  | [], s, h, _ => h
  | u :: r, s, h, g => foldl_in w r (.bin w s u) ⟨h, g u (List.mem_cons_self ..)⟩ fun x hx => g x (List.mem_cons_of_mem _ hx)
theorem fromLeft_in {p : List Nat → Prop} {w : J} {ss : List Sm} {s : Sm} (h : fromLeft w ss = some s) (g : ∀ u ∈ ss, u.In p) : s.In p := by
  cases ss with
  | nil => cases h
  | cons a r =>
    rw [← Option.some.inj h]
    exact foldl_in w r a (g a (List.mem_cons_self ..)) fun x hx => g x (List.mem_cons_of_mem _ hx)
theorem fromRight_in {p : List Nat → Prop} : ∀ {ss : List Sm} {s : Sm}, fromRight ss = some s → (∀ u ∈ ss, u.In p) → s.In p
  | [], s, h, _ => nomatch h
  | a :: r, s, h, g => by
    have h' : (match fromRight r with
      | none => some a
      | some t => some (Sm.bin .thn a t)) = some s := h
    cases e : fromRight r with
    | none =>
      rw [e] at h'
      rw [← Option.some.inj h']
      exact g a (List.mem_cons_self ..)
    | some t =>
      rw [e] at h'
      rw [← Option.some.inj h']
      exact ⟨g a (List.mem_cons_self ..), fromRight_in e fun x hx => g x (List.mem_cons_of_mem _ hx)⟩
def RIn (p : List Nat → Prop) (r : RI) : Prop := match r with
  | .inl _ => True
  | .inr s => s.In p
theorem rowO_in {p : List Nat → Prop} {row : List RI} {s : Sm} (h : rowO row = some s) (g : ∀ r ∈ row, RIn p r) : s.In p := by
  obtain ⟨ss, e1, e2⟩ := Option.bind_eq_some_iff.mp h
  refine fromRight_in e2 (allO_in orsO e1 fun part hp u hu => ?_)
  obtain ⟨ss, e1, e2⟩ := Option.bind_eq_some_iff.mp hu
  have g1 := cutAt_all .thn g part hp
  refine fromLeft_in e2 (allO_in andsO e1 fun part2 hp2 u2 hu2 => ?_)
  obtain ⟨ss, e1, e2⟩ := Option.bind_eq_some_iff.mp hu2
  have g2 := cutAt_all .or g1 part2 hp2
  refine fromLeft_in e2 (allO_in thingO e1 fun part3 hp3 u3 hu3 => ?_)
  have g3 := cutAt_all .and g2 part3 hp3
  unfold thingO at hu3
  split at hu3
  · rw [← Option.some.inj hu3]
    exact g3 _ (List.mem_singleton.mpr rfl)
  · cases hu3
theorem rowO_ok {row : List RI} {s : Sm} (h : rowO row = some s) (g : ∀ r ∈ row, RI.Ok r) : s.In Ch := rowO_in (p := Ch) h fun r hr => by
  have q := g r hr
  cases r with
  | inl _ => exact True.intro
  | inr s => exact q
theorem rowO_one (s : Sm) : rowO [.inr s] = some s := by
  simp [rowO, orsO, andsO, cutAt, cutGo, allO, thingO, fromLeft, fromRight]
theorem rowO_nil : rowO [] = none := by decide +kernel
theorem rowO_j (j : J) : rowO [.inl j] = none := by cases j <;> decide +kernel
theorem readGo_one (below : List (List RI)) (cur : List RI) (w : List Nat) (ws : List (List Nat)) : readGo below cur (w :: ws) = if w = [40] then readGo (cur :: below) [] ws
    else if w = [41] then match below with
      | [] => none
      | b :: bs => match rowO cur with
        | none => none
        | some s => readGo bs (b ++ [.inr s]) ws
    else match itemO w with
      | none => none
      | some r => readGo below (cur ++ [r]) ws := by cases below <;> rfl
theorem read_plain {l : List Nat} (h : Plain l) (hn : l ≠ []) : readO l = match itemO l with
    | none => none
    | some r => rowO [r] := by
  unfold readO
  rw [words_plain h, if_neg hn, readGo_one, if_neg (fun e => h.1 (by rw [e]; exact List.mem_singleton.mpr rfl)), if_neg (fun e => h.2.1 (by rw [e]; exact List.mem_singleton.mpr rfl))]
  cases itemO l <;> rfl
theorem read_name {l : List Nat} (h : Plain l) (hn : Nm l) : readO l = some (.lt l) := by
  rw [read_plain h (fun e => by have := hn.lo; rw [e] at this; cases this), itemO_nm hn]
  exact rowO_one _
theorem read_not {l : List Nat} (h : Plain l) (h1 : nmB l = false) (h2 : l ≠ [110, 101, 118, 101, 114]) : readO l = none := by
  by_cases hn : l = []
  · rw [hn]
    decide +kernel
  · rw [read_plain h hn]
    by_cases hj : ∃ j : J, S l = j.s
    · obtain ⟨j, e⟩ := hj
      rw [itemO_j j e]
      exact rowO_j j
    · rw [itemO_no (fun j e => hj ⟨j, e⟩) h2 (fun z => by rw [nmB_iff.mpr z] at h1; cases h1)]
theorem words_plain_len {l : List Nat} (h : Plain l) : (wordsOf l).length ≤ 90000 ∧ ∀ w ∈ wordsOf l, w.length ≤ 90000 := by
  rw [words_plain h]
  have := h.2.2.2
  by_cases e : l = []
  · rw [if_pos e]
    exact ⟨Nat.zero_le _, fun _ h => nomatch h⟩
  · rw [if_neg e]
    exact ⟨(by show 1 ≤ 90000; decide), fun w hw => by rw [List.mem_singleton.mp hw]; omega⟩
theorem dpAll_signs {K : PySem.W.Frag} {H : Hp} : ∀ cs : List Nat, DpAll K H (cs.map fun c => V.str (S [c])) (cs.map fun c => PyData.str (S [c]))
  | [] => .nil
  | c :: r => .cons (.str _) (dpAll_signs r)
theorem lay_signs {cs : List Nat} (h : Ch cs) : ∀ d ∈ cs.map (fun c => PyData.str (S [c])), d.canLay0 = true := fun d hd => by
  obtain ⟨c, hc, rfl⟩ := List.mem_map.mp hd
  rw [PyData.canLay0]
  exact Ch.ok fun x hx => by rw [List.mem_singleton.mp hx]; exact h c hc
end Ob

namespace Ob
open PySem PySem.Spec PyProof.Rows L2
def topS (i : Nat) : Stmt := PySem.Challenge.pw_onlybuilt_k09_what_is_a_name.main.body.getD i (.Pass ⟨0, 0, 0, 0⟩)
abbrev s_is_name : Stmt := topS 2
abbrev sc_is_nameN : List Str := ["text", "sign"]
theorem sc_is_name : FnScope sc_is_nameN ["text"] (defScope s_is_name) := ⟨rfl, rfl, rfl, by decide +kernel, rfl, by decide +kernel, by decide +kernel⟩
abbrev s_words : Stmt := topS 8
abbrev sc_wordsN : List Str := ["text", "spread", "word"]
theorem sc_words : FnScope sc_wordsN ["text"] (defScope s_words) := ⟨rfl, rfl, rfl, by decide +kernel, rfl, by decide +kernel, by decide +kernel⟩
abbrev s_item : Stmt := topS 9
abbrev sc_itemN : List Str := ["word"]
theorem sc_item : FnScope sc_itemN ["word"] (defScope s_item) := ⟨rfl, rfl, rfl, by decide +kernel, rfl, by decide +kernel, by decide +kernel⟩
abbrev s_parted : Stmt := topS 10
abbrev sc_partedN : List Str := ["row", "word", "stretches", "item"]
theorem sc_parted : FnScope sc_partedN ["row", "word"] (defScope s_parted) := ⟨rfl, rfl, rfl, by decide +kernel, rfl, by decide +kernel, by decide +kernel⟩
abbrev s_from_left : Stmt := topS 11
abbrev sc_from_leftN : List Str := ["word", "things", "whole", "behind", "right"]
theorem sc_from_left : FnScope sc_from_leftN ["word", "things"] (defScope s_from_left) := ⟨rfl, rfl, rfl, by decide +kernel, rfl, by decide +kernel, by decide +kernel⟩
abbrev s_thing : Stmt := topS 12
abbrev sc_thingN : List Str := ["row"]
theorem sc_thing : FnScope sc_thingN ["row"] (defScope s_thing) := ⟨rfl, rfl, rfl, by decide +kernel, rfl, by decide +kernel, by decide +kernel⟩
abbrev s_row_of_ands : Stmt := topS 13
abbrev sc_row_of_andsN : List Str := ["row", "part"]
theorem sc_row_of_ands : FnScope sc_row_of_andsN ["row"] (defScope s_row_of_ands) := ⟨rfl, rfl, rfl, by decide +kernel, rfl, by decide +kernel, by decide +kernel⟩
abbrev s_row_of_ors : Stmt := topS 14
abbrev sc_row_of_orsN : List Str := ["row", "part"]
theorem sc_row_of_ors : FnScope sc_row_of_orsN ["row"] (defScope s_row_of_ors) := ⟨rfl, rfl, rfl, by decide +kernel, rfl, by decide +kernel, by decide +kernel⟩
abbrev s_statement : Stmt := topS 15
abbrev sc_statementN : List Str := ["row", "ahead", "whole", "left", "part"]
theorem sc_statement : FnScope sc_statementN ["row"] (defScope s_statement) := ⟨rfl, rfl, rfl, by decide +kernel, rfl, by decide +kernel, by decide +kernel⟩
abbrev s_read : Stmt := topS 16
abbrev sc_readN : List Str := ["text", "rows", "word", "whole"]
theorem sc_read : FnScope sc_readN ["text"] (defScope s_read) := ⟨rfl, rfl, rfl, by decide +kernel, rfl, by decide +kernel, by decide +kernel⟩
abbrev s_law_cell : Stmt := topS 18
abbrev sc_law_cellN : List Str := ["_law_script", "_law_k"]
theorem sc_law_cell : FnScope sc_law_cellN ["_law_script", "_law_k"] (defScope s_law_cell) := ⟨rfl, rfl, rfl, by decide +kernel, rfl, by decide +kernel, by decide +kernel⟩
abbrev s_law_row : Stmt := topS 19
abbrev sc_law_rowN : List Str := ["_law_cell_here", "_law_many", "_law_row_here", "_law_rest", "_law_number", "_law_k"]
theorem sc_law_row : FnScope sc_law_rowN ["_law_cell_here", "_law_many"] (defScope s_law_row) := ⟨rfl, rfl, rfl, by decide +kernel, rfl, by decide +kernel, by decide +kernel⟩
abbrev s_law_text : Stmt := topS 20
abbrev sc_law_textN : List Str := ["_law_row_here", "_law_some", "_law_one"]
theorem sc_law_text : FnScope sc_law_textN ["_law_row_here"] (defScope s_law_text) := ⟨rfl, rfl, rfl, by decide +kernel, rfl, by decide +kernel, by decide +kernel⟩
abbrev s_law_due : Stmt := topS 21
abbrev sc_law_dueN : List Str := ["_law_text_here", "_law_sign"]
theorem sc_law_due : FnScope sc_law_dueN ["_law_text_here"] (defScope s_law_due) := ⟨rfl, rfl, rfl, by decide +kernel, rfl, by decide +kernel, by decide +kernel⟩
abbrev s_law_read : Stmt := topS 22
abbrev sc_law_readN : List Str := ["_law_text_here"]
theorem sc_law_read : FnScope sc_law_readN ["_law_text_here"] (defScope s_law_read) := ⟨rfl, rfl, rfl, by decide +kernel, rfl, by decide +kernel, by decide +kernel⟩
abbrev s_law_right : Stmt := topS 23
abbrev sc_law_rightN : List Str := ["_law_text_here", "_law_due_here", "_law_found", "_law_bare", "_law_sign"]
theorem sc_law_right : FnScope sc_law_rightN ["_law_text_here"] (defScope s_law_right) := ⟨rfl, rfl, rfl, by decide +kernel, rfl, by decide +kernel, by decide +kernel⟩
abbrev s_law : Stmt := topS 24
abbrev sc_lawN : List Str := ["_law_script", "_law_cells", "_law_cell_here", "_law_row_here", "_law_text_here", "_law_some", "_law_at", "_law_other", "_law_word"]
theorem sc_law : FnScope sc_lawN ["_law_script"] (defScope s_law) := ⟨rfl, rfl, rfl, by decide +kernel, rfl, by decide +kernel, by decide +kernel⟩
structure Txt (w : World) (K : PySem.W.Frag) (mg : Str → Option Value) : Prop where
  g_KEPT : ∃ pK, mg "KEPT_WORDS" = some (.ref pK) ∧ KT K pK kept
  nt : ∃ C, NT K mg C
  g_JOINTS : ∃ pJ, mg "JOINTS" = some (.ref pJ) ∧ KT K pJ joints
  n_ValueError : mg "ValueError" = none
  n_all : mg "all" = none
  n_bool : mg "bool" = none
  n_isinstance : mg "isinstance" = none
  n_len : mg "len" = none
  n_max : mg "max" = none
  n_range : mg "range" = none
  n_reversed : mg "reversed" = none
  d_is_name : Df K mg "is_name" s_is_name ["text"]
  d_words : Df K mg "_words" s_words ["text"]
  d_item : Df K mg "_item" s_item ["word"]
  d_parted : Df K mg "_parted" s_parted ["row", "word"]
  d_from_left : Df K mg "_from_left" s_from_left ["word", "things"]
  d_thing : Df K mg "_thing" s_thing ["row"]
  d_row_of_ands : Df K mg "_row_of_ands" s_row_of_ands ["row"]
  d_row_of_ors : Df K mg "_row_of_ors" s_row_of_ors ["row"]
  d_statement : Df K mg "_statement" s_statement ["row"]
  d_read : Df K mg "read" s_read ["text"]
  d_law_cell : Df K mg "_law_cell" s_law_cell ["_law_script", "_law_k"]
  d_law_row : Df K mg "_law_row" s_law_row ["_law_cell_here", "_law_many"]
  d_law_text : Df K mg "_law_text" s_law_text ["_law_row_here"]
  d_law_due : Df K mg "_law_due" s_law_due ["_law_text_here"]
  d_law_read : Df K mg "_law_read" s_law_read ["_law_text_here"]
  d_law_right : Df K mg "_law_right" s_law_right ["_law_text_here"]
  d_law : Df K mg "law" s_law ["_law_script"]
section
variable {P : Program}
variable {w : World} {K : PySem.W.Frag} {mg : Str → Option Value} {base : Heap}
/-! ### is_name -/
def sp_is_name (K : PySem.W.Frag) : Sp := fun vs H Q _ => ∃ l : List Nat, vs = [.str (S l)] ∧ l.length ≤ 100000 ∧ ∀ H', Same H H' → Q (.bl (nmB l)) H'
theorem ok_is_name (T : Txt w K mg) : Cl P w K mg base 1 "is_name" (sp_is_name K) := by
  refine T.d_is_name.ok sc_is_name (fun vs H Q E h => ?_) (fun f cdv A outer s H vs Q E hr h => ?_)
  · obtain ⟨l, rfl, _⟩ := h
    rfl
  · obtain ⟨l, rfl, hlen, q⟩ := h
    obtain ⟨pK, hK, hk⟩ := T.g_KEPT
    refine ⟨_, (pss_cons (ps_if (PW.pt (pw_or (pt_not (pt_chain op_le op_le pe_int (pe_callB call_len_str rfl T.n_len (by decide +kernel) (pa_cons (pv 0) pa_nil)) pe_int)) (pw_or1 (pt_cmpR (r := rIn K false) op_in_seq (pv 0) (pe_glob (v := .ref pK) rfl hK rfl) (by rfl)))))
      (pss_one (ps_ret pe_bl))
      pss_nil)
    (pss_one (ps_ret (pe_callB (r := rAll K) (cr_all rfl) rfl T.n_all (by decide +kernel) (pa_cons (pe_lc (own := [("sign", 1)]) rfl sc_is_name.nd (pi_str (pv 0)) (blkOk_by (N := sc_is_nameN) (sc := defScope s_is_name) (by decide +kernel)) (fun _ _ _ _ _ => (pg_name (i := 1) sc_is_name.nd rfl (Or.inl rfl))) (fun _ _ _ _ _ => pts_nil) (fun _ _ _ _ _ => (pe_chain op_le_str op_le_str pe_str (pv 1) pe_str))) pa_nil))))), ?_⟩
    have hz : (S l).length ≤ sizeLine := by
      rw [S_len]
      exact small' hlen
    have hc0 : ∀ c ∈ kept, flatV c = true := by decide +kernel
    refine an_or (b := inV (.str (S l)) kept) (an_not (a := decide (1 ≤ l.length) && decide (l.length ≤ 8)) (fun Q' q' => ?_)) (fun Q' q' => ?_) _ (ite2 (fun hc => ?_) (fun hc => ?_))
    · refine ⟨_, rfl, _, rfl, hz, _, _, rfl, rfl, _, rfl, ?_⟩
      rw [S_len]
      by_cases h1 : 1 ≤ l.length
      · refine ite2 (fun _ => ⟨_, _, rfl, rfl, _, rfl, ?_⟩) (fun z => absurd (decide_eq_true (show (1 : Int) ≤ (l.length : Int) by omega)) z)
        rw [decide_eq_true h1, Bool.true_and] at q'
        rw [show decide ((l.length : Int) ≤ 8) = decide (l.length ≤ 8) from decide_eq_decide.mpr (by omega)]
        exact q'
      · refine ite2 (fun z => absurd (of_decide_eq_true z) (by omega)) (fun _ => ⟨_, rfl, ?_⟩)
        rw [decide_eq_false h1, Bool.false_and] at q'
        exact q'
    · exact ⟨_, rfl, pK, _, rfl, .inr hk.sq, rfl, List.all_eq_true.mpr hc0, _, rfl, q'⟩
    · have e : nmB l = false := by
        unfold nmB
        rw [← Bool.and_assoc]
        rw [Bool.or_eq_true] at hc
        rcases hc with hc | hc
        · rw [Bool.not_eq_true'] at hc
          rw [hc, Bool.false_and]
        · rw [hc]
          simp
      rw [← e]
      exact q H (Same.refl _)
    · rw [Bool.or_eq_true, not_or, Bool.not_eq_true, Bool.not_eq_false', Bool.not_eq_true] at hc
      refine ⟨_, rfl, S l, rfl, fun D nD => ?_⟩
      refine lc_str (l := l) (fun i H1 => ∃ bs : List Bool, bs.length = i ∧ H1 D = some (.lst (bs.map V.bl)) ∧ bs.all id = (l.take i).all (fun c => decide (97 ≤ c) && decide (c ≤ 122)) ∧ Same H H1) ?_ ?_ ?_
      · exact ⟨[], rfl, upd_same, rfl, same_new nD⟩
      · rintro i c H1 hx ⟨bs, hb, hD, ha, sm⟩
        have hlt : i < l.length := (List.getElem?_eq_some_iff.mp hx).1
        have step : ∀ b : Bool, b = (decide (97 ≤ c) && decide (c ≤ 122)) → ∃ acc, H1 D = some (.lst acc) ∧ acc.length < sizeLine ∧ ∃ bs : List Bool, bs.length = i + 1 ∧ (upd H1 D (.lst (acc ++ [V.bl b]))) D = some (.lst (bs.map V.bl)) ∧ bs.all id = (l.take (i + 1)).all (fun c => decide (97 ≤ c) && decide (c ≤ 122)) ∧ Same H (upd H1 D (.lst (acc ++ [V.bl b]))) := by
          intro b eb
          refine ⟨_, hD, by rw [List.length_map]; exact small (by omega), bs ++ [b], by rw [List.length_append, hb]; rfl, by rw [upd_same, List.map_append]; rfl, ?_, same_put sm nD⟩
          rw [List.take_add_one, hx, List.all_append, List.all_append, ha, eb]
          rfl
        refine ⟨rfl, _, rfl, _, _, rfl, rfl, _, rfl, ?_⟩
        rw [show (!decide ((S [c]).cps.toList < ("a" : Str).cps.toList)) = decide (97 ≤ c) from le_sign 97 c]
        by_cases h1 : 97 ≤ c
        · rw [decide_eq_true h1]
          refine iteT ⟨_, _, rfl, rfl, step _ ?_⟩
          rw [show (!decide (("z" : Str).cps.toList < (S [c]).cps.toList)) = decide (c ≤ 122) from le_sign c 122, decide_eq_true h1, Bool.true_and]
        · rw [decide_eq_false h1]
          refine iteF (step _ ?_)
          rw [decide_eq_false h1, Bool.false_and]
      · rintro H1 ⟨bs, hb, hD, ha, sm⟩
        refine ⟨D, bs, rfl, SqL.of hD, ?_⟩
        have e : nmB l = bs.all id := by
          unfold nmB
          rw [← Bool.and_assoc, hc.1, hc.2, ha, List.take_of_length_le (Nat.le_refl _)]
          rfl
        rw [← e]
        exact q H1 sm
/-! ### _words -/
def sp_words (K : PySem.W.Frag) : Sp := fun vs H Q _ => ∃ l : List Nat, vs = [.str (S l)] ∧ Plain l ∧ ∀ p H', Same H H' → H p = none → H' p = some (.lst ((wordsOf l).map fun w => V.str (S w))) → Q (.ref p) H'
theorem ok_words (T : Txt w K mg) : Cl P w K mg base 1 "_words" (sp_words K) := by
  refine T.d_words.ok sc_words (fun vs H Q E h => ?_) (fun f cdv A outer s H vs Q E hr h => ?_)
  · obtain ⟨l, rfl, _⟩ := h
    rfl
  · obtain ⟨l, rfl, hpl, q⟩ := h
    obtain ⟨h0, h1, h2, hlen⟩ := id hpl
    rw [words_plain hpl] at q
    refine ⟨_, (pss_cons (ps_set (i := 1) sc_words.nd rfl (Or.inl rfl) (pe_repl0 (pe_repl0 (pv 0))))
    (pss_one (ps_ret (pe_lc (own := [("word", 2)]) rfl sc_words.nd (pi_listK (K := K) (pe_split (pv 1) pe_str)) (blkOk_by (N := sc_wordsN) (sc := defScope s_words) (by decide +kernel)) (fun _ _ _ _ _ => (pg_name (i := 2) sc_words.nd rfl (Or.inl rfl))) (fun _ _ _ _ _ => (pts_one (pt_truthK (K := K) (pv 2) (by intro _; rfl)))) (fun _ _ _ _ _ => (pv 2)))))), ?_⟩
    have o1 : Builtin.Str.occurrences (S l) "(" 0 (S l).length ((S l).length + 1) = [] := no_occ (by rw [show ("(" : Str) = S [40] by decide +kernel]; exact no_at h0)
    have o2 : Builtin.Str.occurrences (S l) ")" 0 (S l).length ((S l).length + 1) = [] := no_occ (by rw [show (")" : Str) = S [41] by decide +kernel]; exact no_at h1)
    have es : Txt.split (S l) (" " : Str) = [S l] := by
      rw [show (" " : Str) = S [32] by decide +kernel, SX.split_S (by simp) (by decide), spl_no h2]
      rfl
    refine ⟨_, rfl, S l, rfl, o1, S l, rfl, o2, ?_⟩
    refine ⟨_, rfl, ⟨_, rfl⟩, _, _, rfl, rfl, by decide +kernel, by rw [S_len]; exact small' (by omega), fun p0 np0 => ?_⟩
    rw [es]
    refine ⟨p0, rfl, ⟨_, .inl (.inl upd_same)⟩, fun D nD => ?_⟩
    refine lc_list (K := K) (a := p0) (xs := [.str (S l)]) (fun i H1 => H1 p0 = some (.lst [.str (S l)]) ∧ Same H H1 ∧ (i = 0 → H1 D = some (.lst [])) ∧ (i = 1 → H1 D = some (.lst (if l = [] then [] else [.str (S l)])))) ?_ ?_ ?_ ?_
    · exact ⟨by rw [upd_ne (ne_of_none upd_same nD)]; exact upd_same, (same_new np0).trans (same_new nD), fun _ => upd_same, fun z => by cases z⟩
    · rintro i H1 hi ⟨h, _⟩
      exact SqL.of h
    · rintro i x H1 hx ⟨hp0, sm, hD, _⟩
      have hi : i = 0 := by
        have := (List.getElem?_eq_some_iff.mp hx).1
        simp at this
        exact this
      subst hi
      have ex : x = .str (S l) := (Option.some.inj hx).symm
      subst ex
      refine ⟨rfl, _, rfl, _, ⟨by rw [S_len]; exact small' (by omega), rfl⟩, ?_⟩
      rw [S_len]
      cases l with
      | nil =>
        refine iteF ⟨hp0, sm, fun z => (by cases z), fun _ => ?_⟩
        rw [if_pos rfl]
        exact hD rfl
      | cons c r =>
        have e : (((c :: r).length : Int) != 0) = true := by
          rw [List.length_cons, bne_iff_ne]
          omega
        rw [e]
        have np : p0 ≠ D := ne_of_none upd_same nD
        refine iteT ⟨_, rfl, _, hD rfl, small (by decide), ?_, ?_, fun z => (by cases z), fun _ => ?_⟩
        · rw [upd_ne np]
          exact hp0
        · exact same_put sm ((same_new np0).free nD)
        · rw [if_neg (by simp), upd_same]
          rfl
    · rintro H1 ⟨_, sm, _, h⟩
      have nD0 : H D = none := (same_new np0).free nD
      refine q D H1 sm nD0 ((h rfl).trans ?_)
      by_cases e : l = []
      · rw [if_pos e, if_pos e]
        rfl
      · rw [if_neg e, if_neg e]
        rfl
/-! ### _item -/
structure ItemSp (K : PySem.W.Frag) (mg : Str → Option Value) (vs : List V) (H : Hp) (Q : VK) (E : XK) : Prop where
  ex : ∃ l : List Nat, vs = [.str (S l)] ∧ l.length ≤ 90000 ∧
    (∀ j : J, S l = j.s → Q (.str j.s) H) ∧ (∀ p, l = [110, 101, 118, 101, 114] → H p = none → Q (.ref p) (upd H p (.tup [.str "never"]))) ∧ (∀ p H1, Nm l → Same H H1 → H1 p = none → Q (.ref p) (upd H1 p (.tup [.str "letter", .str (S l)]))) ∧
    ((∀ j : J, S l ≠ j.s) → l ≠ [110, 101, 118, 101, 114] → ¬ Nm l → ∀ C H1, NT K mg C → Same H H1 → E (.ref C) none H1)
def sp_item (K : PySem.W.Frag) (mg : Str → Option Value) : Sp := fun vs H Q E => ItemSp K mg vs H Q E
theorem in_joints {l : List Nat} (h : inV (.str (S l)) joints = true) : ∃ j : J, S l = j.s := by
  have h' : (["and", "or", "then"] : List Str).any (· == S l) = true := by rw [← inV_str]; exact h
  rw [List.any_eq_true] at h'
  obtain ⟨x, hx, e⟩ := h'
  have e' : x = S l := eq_of_beq e
  rcases List.mem_cons.mp hx with rfl | hx
  · exact ⟨.and, e'.symm⟩
  rcases List.mem_cons.mp hx with rfl | hx
  · exact ⟨.or, e'.symm⟩
  rcases List.mem_cons.mp hx with rfl | hx
  · exact ⟨.thn, e'.symm⟩
  · cases hx
theorem ok_item (T : Txt w K mg) (c_is_name : Cl P w K mg base 1 "is_name" (sp_is_name K)) : ClX P w K mg base 2 "_item" (sp_item K mg) := by
  refine T.d_item.okX sc_item (fun vs H Q E h => ?_) (fun f cdv A outer s H vs Q E hr h => ?_)
  · obtain ⟨l, rfl, _⟩ := h.ex
    rfl
  · obtain ⟨l, rfl, hlen, q1, q2, q3, q4⟩ := h.ex
    obtain ⟨C, nt⟩ := T.nt
    obtain ⟨pJ, hJ, hj⟩ := T.g_JOINTS
    refine ⟨_, (pss_cons (ps_if (pt_cmpR (r := rIn K false) op_in_seq (pv 0) (pe_glob (v := .ref pJ) rfl hJ rfl) (by rfl))
      (pss_one (ps_ret (pv 0)))
      pss_nil)
    (pss_cons (ps_if (pt_cmpR op_eq (pv 0) pe_str (nomark _))
      (pss_one (ps_ret (pe_tup (pa_cons pe_str pa_nil))))
      pss_nil)
    (pss_cons (ps_if (pt_val (pe_k c_is_name hr (by omega) rfl (pa_cons (pv 0) pa_nil)))
      (pss_one (ps_ret (pe_tup (pa_cons pe_str (pa_cons (pv 0) pa_nil)))))
      pss_nil)
    (pss_one (ps_raise rfl (takes_of rfl rfl rfl rfl) (SkE.pmk_own1 PySem.F.excBase_ValueError nt.xC nt.gC nt.kC (raises_own nt.bC nt.tC) rfl (pe_joined (.cons (pe_fmt (pv 0)) (.cons pe_str .nil))))))))), ?_⟩
    have hjf : ∀ c ∈ joints, flatV c = true := by decide +kernel
    refine ⟨_, rfl, pJ, _, rfl, .inr hj.sq, rfl, List.all_eq_true.mpr hjf, _, rfl, ite2 (fun hc => ?_) (fun hc => ?_)⟩
    · obtain ⟨j, ej⟩ := in_joints hc
      refine ⟨_, rfl, ?_⟩
      rw [ej]
      exact q1 j ej
    have nj : ∀ j : J, S l ≠ j.s := fun j e => hc (by rw [e]; cases j <;> decide +kernel)
    refine ⟨_, rfl, rfl, _, rfl, ite2 (fun hn => ?_) (fun hn => ?_)⟩
    · have en : l = [110, 101, 118, 101, 114] := by
        have z := of_decide_eq_true hn
        injection z with z
        exact S_inj (z.trans (by decide +kernel))
      exact ⟨sz1, fun p np => q2 p en np⟩
    have nn : l ≠ [110, 101, 118, 101, 114] := fun e => hn (by rw [e]; decide +kernel)
    refine ⟨_, rfl, l, rfl, by omega, fun H1 s1 => ⟨_, rfl, ite2 (fun hb => ?_) (fun hb => ?_)⟩⟩
    · exact ⟨_, rfl, sz2, fun p np => q3 p H1 (nmB_iff.mp hb) s1 np⟩
    · have e1 : Str.empty ++ S l = S l := S_cat [] l
      have e2 : S l ++ (" is no name" : Str) = S (l ++ [32, 105, 115, 32, 110, 111, 32, 110, 97, 109, 101]) := by
        rw [show (" is no name" : Str) = S [32, 105, 115, 32, 110, 111, 32, 110, 97, 109, 101] by decide +kernel]
        exact S_cat _ _
      refine ⟨_, rfl, .inl ⟨_, rfl, by rw [S_len]; exact small' (by omega), _, rfl, ?_, _, rfl, ?_, q4 nj nn (fun z => hb (nmB_iff.mpr z)) C H1 nt s1⟩⟩
      · rw [e1, S_len]
        exact small' (by omega)
      · rw [e1, e2, S_len, List.length_append]
        exact small' (show l.length + 11 ≤ 100000 by omega)
/-! ### _parted -/
def sp_parted (K : PySem.W.Frag) : Sp := fun vs H Q _ => ∃ (v : V) (w : J) (row : List RI), vs = [v, .str w.s] ∧ RR K H v row ∧ (∀ r ∈ row, RI.Ok r) ∧ row.length ≤ 90000 ∧
  ∀ p H' ps, Same H H' → H p = none → H' p = some (.lst ps) → Paired (RR K H') ps (cutAt w row) → Q (.ref p) H'
theorem ok_parted (T : Txt w K mg) : Cl P w K mg base 1 "_parted" (sp_parted K) := by
  refine T.d_parted.ok sc_parted (fun vs H Q E h => ?_) (fun f cdv A outer s H vs Q E hr h => ?_)
  · obtain ⟨v, w, row, rfl, _⟩ := h
    rfl
  · obtain ⟨v, j, row, rfl, ⟨a, xs, rfl, hA, hp⟩, hok, hlen, q⟩ := h
    refine ⟨_, (pss_cons (ps_set (i := 2) sc_parted.nd rfl (Or.inl rfl) (pe_lst (pa_cons (pe_lst pa_nil) pa_nil)))
    (pss_cons (ps_for PassesOwn.never rfl (pi_listK (K := K) (pv 0)) (pg_name (i := 3) sc_parted.nd rfl (Or.inl rfl))
      (pss_one (ps_if (pt_cmpR (r := rEqE K) (op_eqE hr.units) (pv 3) (pv 1) (nomark _))
          (pss_one (ps_expr (pe_bm PySem.F.plainAttrs_list PySem.F.slot_list_append PySem.F.type_list_append mt_append (pv 2) (pa_cons (pe_lst pa_nil) pa_nil))))
          (pss_one (ps_expr (pe_bm PySem.F.plainAttrs_list PySem.F.slot_list_append PySem.F.type_list_append mt_append (pe_ix (r := rIxL K) ix_list (pv 2) (pe_un un_neg pe_int) (fun _ _ => rfl)) (pa_cons (pv 3) pa_nil)))))))
    (pss_one (ps_ret (pv 2))))), ?_⟩
    refine ⟨sz0, fun c nc => ⟨sz1, fun o no => ?_⟩⟩
    have nco : c ≠ o := ne_of_none upd_same no
    have no0 : H o = none := (same_new nc).free no
    have hx : row.length = xs.length := (pair_len hp).symm
    have s2 : Same H (upd (upd H c (.lst [])) o (.lst [.ref c])) := (same_new nc).trans (same_new no)
    have ho : (upd (upd H c (.lst [])) o (.lst [.ref c])) o = some (.lst [.ref c]) := upd_same
    have hc : (upd (upd H c (.lst [])) o (.lst [.ref c])) c = some (.lst []) := by
      rw [upd_ne nco]
      exact upd_same
    show ∃ v, _ ∧ _
    generalize upd (upd H c (.lst [])) o (.lst [.ref c]) = H2 at s2 ho hc ⊢
    refine ⟨_, rfl, a, rfl, ⟨_, SqL.of (s2 _ _ hA)⟩, for_list (K := K) (a := a) (xs := xs) (fun i σ H1 => ∃ (y : Option V) (ds : List Addr) (dr : List (List RI)) (c : Addr) (cx : List V) (cr : List RI), σ = [some (.ref a), some (.str j.s), some (.ref o), y] ∧ H1 o = some (.lst (ds.map V.ref ++ [.ref c])) ∧
      Paired (fun d r => ∃ ys, H1 d = some (.lst ys) ∧ Paired (RV K H) ys r ∧ H d = none ∧ d ≠ c ∧ d ≠ o) ds dr ∧ H1 c = some (.lst cx) ∧ Paired (RV K H) cx cr ∧ H c = none ∧ c ≠ o ∧ Same H H1 ∧ cutGo j dr cr (row.drop i) = cutAt j row ∧ ds.length ≤ i ∧ cr.length ≤ i) ?_ ?_ ?_ ?_⟩
    · exact ⟨_, [], [], c, [], [], rfl, ho, .nil, hc, .nil, nc, nco, s2, rfl, Nat.le_refl _, Nat.le_refl _⟩
    · rintro i σ H1 hi ⟨y, ds, dr, c, cx, cr, rfl, _, _, _, _, _, _, sm, _⟩
      exact SqL.of (sm _ _ hA)
    · rintro i x σ H1 hi ⟨y, ds, dr, c, cx, cr, rfl, ho, hds, hc, hcr, nc, nco, sm, ecut, ld, lc⟩
      obtain ⟨r, hr1, hrv⟩ := pair_get hp hi
      have hlt : i < row.length := (List.getElem?_eq_some_iff.mp hr1).1
      have ed : row.drop i = r :: row.drop (i + 1) := by
        rw [List.drop_eq_getElem_cons hlt]
        congr 1
        exact Option.some.inj ((List.getElem?_eq_getElem hlt).symm.trans hr1)
      rw [ed] at ecut
      have hr2 : RV K H1 x r := hrv.same sm
      refine ⟨_, rfl, _, rfl, RI.data r, .str j.s, hr2.dp, .str _, RI.lay (hok r (List.mem_of_getElem? hr1)), by rw [PyData.canLay0]; exact j.ok, depth_str _ _, _, rfl, ?_⟩
      rw [RI.eqv]
      refine ite2 (fun h => ?_) (fun h => ?_)
      · have h' : r = .inl j := of_decide_eq_true h
        have ecut' : cutGo j (dr ++ [cr]) [] (row.drop (i + 1)) = cutAt j row := by
          rw [← ecut]
          show _ = if r = .inl j then _ else _
          rw [if_pos h']
        refine ⟨_, rfl, tyL ho, sz0, fun p np => ⟨o, ds.map V.ref ++ [.ref c], .ref p, rfl, rfl, ?_, ?_, ?_⟩⟩
        · rw [upd_ne (ne_of_none ho np)]
          exact ho
        · rw [List.length_append, List.length_map]
          exact small (show ds.length + 1 ≤ 100000 by omega)
        · have np0 : H p = none := sm.free np
          have npo : p ≠ o := fun z => by rw [z, ho] at np; cases np
          have ncp : c ≠ p := fun z => by rw [z] at hc; rw [np] at hc; cases hc
          refine ⟨some x, ds ++ [c], dr ++ [cr], p, [], [], rfl, ?_, ?_, ?_, .nil, np0, npo, ?_, ecut', ?_, Nat.zero_le _⟩
          · rw [upd_same, List.map_append]
            rfl
          · refine pair_app (pair_map (fun d e hh => ?_) hds) (.cons ⟨cx, ?_, hcr, nc, ncp, nco⟩ .nil)
            · obtain ⟨ys, h1, h2, h3, h4, h5⟩ := hh
              refine ⟨ys, ?_, h2, h3, fun z => ?_, h5⟩
              · rw [upd_ne h5, upd_ne (ne_of_none h1 np)]
                exact h1
              · rw [z, np] at h1
                cases h1
            · rw [upd_ne nco, upd_ne ncp]
              exact hc
          · rw [upd_ne npo]
            exact upd_same
          · exact same_put (sm.trans (same_new np)) no0
          · rw [List.length_append]
            show ds.length + 1 ≤ i + 1
            omega
      · have h' : ¬ r = .inl j := fun z => h (decide_eq_true z)
        have ecut' : cutGo j dr (cr ++ [r]) (row.drop (i + 1)) = cutAt j row := by
          rw [← ecut]
          show _ = if r = .inl j then _ else _
          rw [if_neg h']
        refine ⟨_, rfl, _, rfl, o, _, -1, _, rfl, rfl, SqL.of ho, atI_last _ _, tyL hc, _, rfl, c, _, x, rfl, rfl, hc, ?_, ?_⟩
        · rw [pair_len hcr]
          exact small (show cr.length ≤ 100000 by omega)
        · refine ⟨some x, ds, dr, c, cx ++ [x], cr ++ [r], rfl, ?_, ?_, upd_same, pair_app hcr (.cons hrv .nil), nc, nco, same_put sm nc, ecut', by omega, ?_⟩
          · rw [upd_ne nco.symm]
            exact ho
          · refine pair_map (fun d e hh => ?_) hds
            obtain ⟨ys, h1, h2, h3, h4, h5⟩ := hh
            refine ⟨ys, ?_, h2, h3, h4, h5⟩
            rw [upd_ne h4]
            exact h1
          · rw [List.length_append]
            show cr.length + 1 ≤ i + 1
            omega
    · rintro σ H1 ⟨y, ds, dr, c, cx, cr, rfl, ho, hds, hc, hcr, nc, nco, sm, ecut, ld, lc⟩
      refine ⟨_, rfl, q o H1 _ sm no0 ho ?_⟩
      rw [← hx, List.drop_length] at ecut
      rw [← ecut]
      refine pair_app (pair_refs hds fun d r hh => ?_) (.cons ⟨c, cx, rfl, hc, pair_map (fun _ _ r => r.same sm) hcr⟩ .nil)
      obtain ⟨ys, h1, h2, _⟩ := hh
      exact ⟨d, ys, rfl, h1, pair_map (fun _ _ r => r.same sm) h2⟩
/-! ### _from_left -/
def sp_from_left (K : PySem.W.Frag) : Sp := fun vs H Q _ => ∃ (w : J) (p : Addr) (xs : List V) (ss : List Sm), vs = [.str w.s, .ref p] ∧ H p = some (.lst xs) ∧ Paired (IsSm K H) xs ss ∧ ss.length ≤ 90001 ∧
  ∃ s, fromLeft w ss = some s ∧ ∀ x H', Same H H' → IsSm K H' x s → Q x H'
theorem ok_from_left (T : Txt w K mg) : Cl P w K mg base 1 "_from_left" (sp_from_left K) := by
  refine T.d_from_left.ok sc_from_left (fun vs H Q E h => ?_) (fun f cdv A outer s H vs Q E hr h => ?_)
  · obtain ⟨w, p, xs, ss, rfl, _⟩ := h
    rfl
  · obtain ⟨j, p, xs, ss, rfl, hp, hss, hlen, t, ht, q⟩ := h
    refine ⟨_, (pss_cons (ps_asg (pv 1) (pg_star (i := 1) (j := 0) rfl (pgs_cons (pg_name (i := 2) sc_from_left.nd rfl (Or.inl rfl)) (pgs_star (pg_name (i := 3) sc_from_left.nd rfl (Or.inl rfl)) pgs_nil))))
    (pss_cons (ps_for PassesOwn.never rfl (pi_listK (K := K) (pv 3)) (pg_name (i := 4) sc_from_left.nd rfl (Or.inl rfl))
      (pss_one (ps_set (i := 2) sc_from_left.nd rfl (Or.inl rfl) (pe_tup (pa_cons (pv 0) (pa_cons (pv 2) (pa_cons (pv 4) pa_nil)))))))
    (pss_one (ps_ret (pv 2))))), ?_⟩
    cases hss with
    | nil => cases ht
    | @cons x0 s0 xr r h0 hr0 =>
      have et : r.foldl (fun a b => .bin j a b) s0 = t := Option.some.inj ht
      refine ⟨_, rfl, p, [x0], xr, [], rfl, (by rw [List.append_nil]; exact SqL.of hp), rfl, rfl, fun D nD => ?_⟩
      have sD : Same H (upd H D (.lst xr)) := same_new nD
      have hD : (upd H D (.lst xr)) D = some (.lst xr) := upd_same
      refine ⟨_, _, rfl, _, _, rfl, rfl, ?_⟩
      show ∃ v, _ ∧ _
      generalize upd H D (.lst xr) = H2 at sD hD ⊢
      refine ⟨_, rfl, D, rfl, ⟨_, SqL.of hD⟩, for_list (K := K) (a := D) (xs := xr) (fun i σ H1 => ∃ (y : Option V) (v : V), σ = [some (.str j.s), some (.ref p), some v, some (.ref D), y] ∧ IsSm K H1 v ((r.take i).foldl (fun a b => .bin j a b) s0) ∧ Same H2 H1) ?_ ?_ ?_ ?_⟩
      · exact ⟨_, x0, rfl, h0.same sD, Same.refl _⟩
      · rintro i σ H1 hi ⟨y, v, rfl, _, sm⟩
        exact SqL.of (sm _ _ hD)
      · rintro i x σ H1 hi ⟨y, v, rfl, hv, sm⟩
        obtain ⟨u, hu, hx⟩ := pair_get hr0 hi
        refine ⟨_, rfl, _, rfl, _, rfl, sz3, fun p np => ⟨some x, .ref p, rfl, ?_, sm.trans (same_new np)⟩⟩
        have e : (r.take (i + 1)).foldl (fun a b => Sm.bin j a b) s0 = .bin j ((r.take i).foldl (fun a b => Sm.bin j a b) s0) u := by
          rw [List.take_add_one, hu, List.foldl_append]
          rfl
        rw [e]
        exact .bin (SqT.of upd_same) (hv.same (same_new np)) ((hx.same (sD.trans sm)).same (same_new np))
      · rintro σ H1 ⟨y, v, rfl, hv, sm⟩
        rw [pair_len hr0, List.take_length, et] at hv
        exact ⟨_, rfl, q v H1 (sD.trans sm) hv⟩
/-! ### _thing -/
def sp_thing (K : PySem.W.Frag) (mg : Str → Option Value) : Sp := fun vs H Q E => ∃ (v : V) (row : List RI), vs = [v] ∧ RR K H v row ∧ (∀ r x, row = [r] → RV K H x r → Q x H) ∧ ((∀ r, row ≠ [r]) → ∀ C, NT K mg C → E (.ref C) none H)
theorem ok_thing (T : Txt w K mg) : ClX P w K mg base 1 "_thing" (sp_thing K mg) := by
  refine T.d_thing.okX sc_thing (fun vs H Q E h => ?_) (fun f cdv A outer s H vs Q E hr h => ?_)
  · obtain ⟨v, row, rfl, _⟩ := h
    rfl
  · obtain ⟨v, row, rfl, ⟨a, xs, rfl, hA, hp⟩, q1, q2⟩ := h
    obtain ⟨C, nt⟩ := T.nt
    refine ⟨_, (pss_cons (ps_if (pt_cmpR op_ne (pe_callB (r := rLenK K) call_len_seq rfl T.n_len (by decide +kernel) (pa_cons (pv 0) pa_nil)) pe_int (nomark _))
      (pss_one (ps_raise rfl (takes_of rfl rfl rfl rfl) (pmk_own PySem.F.excBase_ValueError nt.xC nt.gC nt.kC (raises_own nt.bC nt.tC) rfl)))
      pss_nil)
    (pss_one (ps_ret (pe_ix (r := rIxL K) ix_list (pv 0) pe_int (fun _ _ => rfl))))), ?_⟩
    have hl := pair_len hp
    refine ⟨_, rfl, a, xs, rfl, .inl (SqL.of hA), rfl, _, rfl, ite2 (fun h => ?_) (fun h => ?_)⟩
    · refine q2 (fun r e => ?_) C nt
      rw [e] at hl
      rw [hl] at h
      cases h
    · cases hp with
      | nil => exact absurd rfl h
      | @cons x r xr rr hx hrr =>
        cases hrr with
        | nil => exact ⟨_, rfl, a, _, 0, x, rfl, rfl, SqL.of hA, at0, q1 r x rfl hx⟩
        | cons _ _ =>
          refine absurd ?_ h
          rw [Bool.not_eq_true', decide_eq_false_iff_not]
          intro z
          injection z with z
          rw [List.length_cons, List.length_cons] at z
          omega
/-! ### _row_of_ands -/
def sp_ands (K : PySem.W.Frag) (mg : Str → Option Value) : Sp := fun vs H Q E => ∃ (v : V) (row : List RI), vs = [v] ∧ RR K H v row ∧ (∀ r ∈ row, RI.Ok r) ∧ row.length ≤ 90000 ∧ (∀ r ∈ row, r ≠ .inl .or ∧ r ≠ .inl .thn) ∧
  (∀ x s H', andsO row = some s → Same H H' → IsSm K H' x s → Q x H') ∧ (andsO row = none → ∀ C H', NT K mg C → Same H H' → E (.ref C) none H')
theorem ok_row_of_ands (T : Txt w K mg) (c__parted : Cl P w K mg base 1 "_parted" (sp_parted K)) (c__from_left : Cl P w K mg base 1 "_from_left" (sp_from_left K)) (c__thing : ClX P w K mg base 1 "_thing" (sp_thing K mg)) : ClX P w K mg base 2 "_row_of_ands" (sp_ands K mg) := by
  refine T.d_row_of_ands.okX sc_row_of_ands (fun vs H Q E h => ?_) (fun f cdv A outer s H vs Q E hr h => ?_)
  · obtain ⟨v, row, rfl, _⟩ := h
    rfl
  · obtain ⟨v, row, rfl, hrr, hok, hlen, hno, q1, q2⟩ := h
    refine ⟨_, (pss_one (ps_ret (pe_k c__from_left hr (by omega) rfl (pa_cons pe_str (pa_cons (pe_lcX (own := [("part", 1)]) rfl rfl (takes_of rfl rfl rfl rfl) (fun _ _ _ _ h => h) rfl sc_row_of_ands.nd (pi_listK (K := K) (pe_k c__parted hr (by omega) rfl (pa_cons (pv 0) (pa_cons pe_str pa_nil)))) (blkOk_by (N := sc_row_of_andsN) (sc := defScope s_row_of_ands) (by decide +kernel)) (fun _ _ _ _ _ => (pg_name (i := 1) sc_row_of_ands.nd rfl (Or.inl rfl))) (fun _ _ _ _ _ => pts_nil) (fun _ _ _ _ _ => (pe_kX c__thing hr (by omega) xc_passes rfl (pa_cons (pv 1) pa_nil)))) pa_nil))))), ?_⟩
    refine ⟨_, rfl, v, .and, row, rfl, hrr, hok, hlen, fun p H1 ps s1 np hp hps => ?_⟩
    refine ⟨p, rfl, ⟨_, SqL.of hp⟩, fun D nD => ?_⟩
    have hl := cutAt_len .and row
    refine lc_parts (mg := mg) (f := thingO) (E := E) hp hps nD (by omega) (fun _ => rfl) (fun _ => rfl) (fun x part H2 Q' hm hx k1 k2 => ?_) (fun hn C H3 nt s3 => q2 (by unfold andsO; rw [hn]; rfl) C H3 nt (s1.trans s3)) (fun ss xs H3 hss s3 hD hxs => ?_)
    · refine ⟨x, part, rfl, hx, fun r y e hy => ?_, fun hn C nt => k2 ?_ C H2 nt (Same.refl _)⟩
      · cases hy with
        | j w =>
          exfalso
          have h1 : w ≠ .and := fun z => cutAt_no .and row part hm (.inl w) (by rw [e]; exact List.mem_singleton.mpr rfl) (by rw [z])
          have h2 := cutAt_all (p := fun r => r ≠ .inl .or ∧ r ≠ .inl .thn) .and hno part hm (.inl w) (by rw [e]; exact List.mem_singleton.mpr rfl)
          cases w with
          | and => exact h1 rfl
          | or => exact h2.1 rfl
          | thn => exact h2.2 rfl
        | s hs => exact k1 _ _ H2 (by rw [e]; rfl) (Same.refl _) hs
      · unfold thingO
        split
        · exact absurd rfl (hn _)
        · rfl
    · have hne : ss ≠ [] := fun z => by
        have q := allO_len _ hss
        rw [z] at q
        exact cutGo_ne .and row [] [] (List.length_eq_zero_iff.mp q.symm)
      obtain ⟨s, r, rfl⟩ := List.exists_cons_of_ne_nil hne
      refine ⟨.and, D, xs, _, rfl, hD, hxs, by rw [allO_len _ hss]; omega, _, rfl, fun y H4 s4 hy => q1 y _ H4 ?_ ((s1.trans s3).trans s4) hy⟩
      unfold andsO
      rw [hss]
      rfl
/-! ### _row_of_ors -/
def sp_ors (K : PySem.W.Frag) (mg : Str → Option Value) : Sp := fun vs H Q E => ∃ (v : V) (row : List RI), vs = [v] ∧ RR K H v row ∧ (∀ r ∈ row, RI.Ok r) ∧ row.length ≤ 90000 ∧ (∀ r ∈ row, r ≠ .inl .thn) ∧
  (∀ x s H', orsO row = some s → Same H H' → IsSm K H' x s → Q x H') ∧ (orsO row = none → ∀ C H', NT K mg C → Same H H' → E (.ref C) none H')
theorem ok_row_of_ors (T : Txt w K mg) (c__parted : Cl P w K mg base 1 "_parted" (sp_parted K)) (c__from_left : Cl P w K mg base 1 "_from_left" (sp_from_left K)) (c__row_of_ands : ClX P w K mg base 2 "_row_of_ands" (sp_ands K mg)) : ClX P w K mg base 3 "_row_of_ors" (sp_ors K mg) := by
  refine T.d_row_of_ors.okX sc_row_of_ors (fun vs H Q E h => ?_) (fun f cdv A outer s H vs Q E hr h => ?_)
  · obtain ⟨v, row, rfl, _⟩ := h
    rfl
  · obtain ⟨v, row, rfl, hrr, hok, hlen, hno, q1, q2⟩ := h
    refine ⟨_, (pss_one (ps_ret (pe_k c__from_left hr (by omega) rfl (pa_cons pe_str (pa_cons (pe_lcX (own := [("part", 1)]) rfl rfl (takes_of rfl rfl rfl rfl) (fun _ _ _ _ h => h) rfl sc_row_of_ors.nd (pi_listK (K := K) (pe_k c__parted hr (by omega) rfl (pa_cons (pv 0) (pa_cons pe_str pa_nil)))) (blkOk_by (N := sc_row_of_orsN) (sc := defScope s_row_of_ors) (by decide +kernel)) (fun _ _ _ _ _ => (pg_name (i := 1) sc_row_of_ors.nd rfl (Or.inl rfl))) (fun _ _ _ _ _ => pts_nil) (fun _ _ _ _ _ => (pe_kX c__row_of_ands hr (by omega) xc_passes rfl (pa_cons (pv 1) pa_nil)))) pa_nil))))), ?_⟩
    refine ⟨_, rfl, v, .or, row, rfl, hrr, hok, hlen, fun p H1 ps s1 np hp hps => ?_⟩
    refine ⟨p, rfl, ⟨_, SqL.of hp⟩, fun D nD => ?_⟩
    have hl := cutAt_len .or row
    refine lc_parts (mg := mg) (f := andsO) (E := E) hp hps nD (by omega) (fun _ => rfl) (fun _ => rfl) (fun x part H2 Q' hm hx k1 k2 => ?_) (fun hn C H3 nt s3 => q2 (by unfold orsO; rw [hn]; rfl) C H3 nt (s1.trans s3)) (fun ss xs H3 hss s3 hD hxs => ?_)
    · refine ⟨x, part, rfl, hx, cutAt_all .or hok part hm, Nat.le_trans (cutAt_part .or row part hm) hlen, fun r hr => ⟨cutAt_no .or row part hm r hr, cutAt_all (p := fun r => r ≠ .inl .thn) .or hno part hm r hr⟩, fun y s H4 e s4 hy => k1 y s H4 e s4 hy, fun hn C H4 nt s4 => k2 hn C H4 nt s4⟩
    · have hne : ss ≠ [] := fun z => by
        have q := allO_len _ hss
        rw [z] at q
        exact cutGo_ne .or row [] [] (List.length_eq_zero_iff.mp q.symm)
      obtain ⟨s, r, rfl⟩ := List.exists_cons_of_ne_nil hne
      refine ⟨.or, D, xs, _, rfl, hD, hxs, by rw [allO_len _ hss]; omega, _, rfl, fun y H4 s4 hy => q1 y _ H4 ?_ ((s1.trans s3).trans s4) hy⟩
      unfold orsO
      rw [hss]
      rfl
/-! ### _statement -/
def sp_statement (K : PySem.W.Frag) (mg : Str → Option Value) : Sp := fun vs H Q E => ∃ (v : V) (row : List RI), vs = [v] ∧ RR K H v row ∧ (∀ r ∈ row, RI.Ok r) ∧ row.length ≤ 90000 ∧
  (∀ x s H', rowO row = some s → Same H H' → IsSm K H' x s → Q x H') ∧ (rowO row = none → ∀ C H', NT K mg C → Same H H' → E (.ref C) none H')
theorem ok_statement (T : Txt w K mg) (c__parted : Cl P w K mg base 1 "_parted" (sp_parted K)) (c__row_of_ors : ClX P w K mg base 3 "_row_of_ors" (sp_ors K mg)) : ClX P w K mg base 4 "_statement" (sp_statement K mg) := by
  refine T.d_statement.okX sc_statement (fun vs H Q E h => ?_) (fun f cdv A outer s H vs Q E hr h => ?_)
  · obtain ⟨v, row, rfl, _⟩ := h
    rfl
  · obtain ⟨v, row, rfl, hrr, hok, hlen, q1, q2⟩ := h
    refine ⟨_, (pss_cons (ps_asg (pe_lcX (own := [("part", 4)]) rfl rfl (takes_of rfl rfl rfl rfl) (fun _ _ _ _ h => h) rfl sc_statement.nd (pi_listK (K := K) (pe_k c__parted hr (by omega) rfl (pa_cons (pv 0) (pa_cons pe_str pa_nil)))) (blkOk_by (N := sc_statementN) (sc := defScope s_statement) (by decide +kernel)) (fun _ _ _ _ _ => (pg_name (i := 4) sc_statement.nd rfl (Or.inl rfl))) (fun _ _ _ _ _ => pts_nil) (fun _ _ _ _ _ => (pe_kX c__row_of_ors hr (by omega) xc_passes rfl (pa_cons (pv 4) pa_nil)))) (pg_star (i := 0) (j := 1) rfl (pgs_star (pg_name (i := 1) sc_statement.nd rfl (Or.inl rfl)) (pgs_cons (pg_name (i := 2) sc_statement.nd rfl (Or.inl rfl)) pgs_nil))))
    (pss_cons (ps_for (passes_of rfl) rfl (pi_reversed rfl T.n_reversed (pa_cons (pv 1) pa_nil)) (pg_name (i := 3) sc_statement.nd rfl (Or.inl rfl))
      (pss_one (ps_set (i := 2) sc_statement.nd rfl (Or.inl rfl) (pe_tup (pa_cons pe_str (pa_cons (pv 3) (pa_cons (pv 2) pa_nil)))))))
    (pss_one (ps_ret (pv 2))))), ?_⟩
    refine ⟨_, rfl, v, .thn, row, rfl, hrr, hok, hlen, fun p H1 ps s1 np hp hps => ?_⟩
    refine ⟨p, rfl, ⟨_, SqL.of hp⟩, fun D nD => ?_⟩
    have hl := cutAt_len .thn row
    refine lc_parts (mg := mg) (f := orsO) (E := E) hp hps nD (by omega) (fun _ => rfl) (fun _ => rfl) (fun x part H2 Q' hm hx k1 k2 => ?_) (fun hn C H3 nt s3 => q2 (by unfold rowO; rw [hn]; rfl) C H3 nt (s1.trans s3)) (fun ss xs H3 hss s3 hD hxs => ?_)
    · refine ⟨x, part, rfl, hx, cutAt_all .thn hok part hm, Nat.le_trans (cutAt_part .thn row part hm) hlen, fun r hr => cutAt_no .thn row part hm r hr, fun y s H4 e s4 hy => k1 y s H4 e s4 hy, fun hn C H4 nt s4 => k2 hn C H4 nt s4⟩
    · have hne : ss ≠ [] := fun z => by
        have q := allO_len _ hss
        rw [z] at q
        exact cutGo_ne .thn row [] [] (List.length_eq_zero_iff.mp q.symm)
      have lss := allO_len _ hss
      obtain ⟨ms, t, rfl⟩ : ∃ ms t, ss = ms ++ [t] := ⟨ss.dropLast, ss.getLast hne, (List.dropLast_concat_getLast hne).symm⟩
      obtain ⟨xm, x0, rfl, hxm, hx0⟩ := pair_snoc ms hxs
      have ho : rowO row = some (ms.foldr (fun l acc => .bin .thn l acc) t) := by
        unfold rowO
        rw [hss]
        exact fromRight_snoc t ms
      refine ⟨D, [], xm, [x0], rfl, SqL.of hD, rfl, rfl, fun B nB => ?_⟩
      have sB : Same H3 (upd H3 B (.lst xm)) := same_new nB
      have hB : (upd H3 B (.lst xm)) B = some (.lst xm) := upd_same
      refine ⟨_, _, rfl, _, _, rfl, rfl, ?_⟩
      show ∃ v, _ ∧ _
      generalize upd H3 B (.lst xm) = H4 at sB hB ⊢
      refine ⟨_, rfl, B, xm, rfl, SqL.of hB, RT.for_Itv (K := K) (a := B) (xs := xm) (fun i σ H5 => ∃ (y z : Option V) (u : V), σ = [some v, some (.ref B), some u, y, z] ∧ i ≤ ms.length ∧ IsSm K H5 u ((ms.drop (ms.length - i)).foldr (fun l acc => .bin .thn l acc) t) ∧ Same H4 H5) ?_ ?_ ?_ ?_⟩
      · exact ⟨_, _, x0, rfl, Nat.zero_le _, by rw [Nat.sub_zero, List.drop_length]; exact hx0.same sB, Same.refl _⟩
      · rintro i σ H5 ⟨y, z, u, rfl, _, _, sm⟩
        exact SqL.of (sm _ _ hB)
      · rintro i x σ H5 hi hx ⟨y, z, u, rfl, hil, hu, sm⟩
        have lm := pair_len hxm
        obtain ⟨m, hm, hxm'⟩ := pair_get hxm hx
        rw [lm] at hm hi
        have e : ms.drop (ms.length - (i + 1)) = m :: ms.drop (ms.length - i) := by
          have hlt : ms.length - (i + 1) < ms.length := by omega
          rw [List.drop_eq_getElem_cons hlt, show ms.length - (i + 1) + 1 = ms.length - i by omega]
          congr 1
          refine Option.some.inj ((List.getElem?_eq_getElem hlt).symm.trans ?_)
          rw [show ms.length - (i + 1) = ms.length - 1 - i by omega]
          exact hm
        refine ⟨_, rfl, _, rfl, sz3, fun p np => ⟨some x, z, .ref p, rfl, hi, ?_, sm.trans (same_new np)⟩⟩
        rw [e]
        exact .bin (w := .thn) (SqT.of upd_same) (((hxm'.same sB).same sm).same (same_new np)) (hu.same (same_new np))
      · rintro σ H5 ⟨y, z, u, rfl, _, hu, sm⟩
        rw [pair_len hxm, Nat.sub_self, List.drop_zero] at hu
        exact ⟨_, rfl, q1 u _ H5 ho (s1.trans (s3.trans (sB.trans sm))) hu⟩
/-! ### read -/
def sp_read (K : PySem.W.Frag) (mg : Str → Option Value) : Sp := fun vs H Q E => ∃ l : List Nat, vs = [.str (S l)] ∧ Plain l ∧ (wordsOf l).length ≤ 90000 ∧ (∀ w ∈ wordsOf l, w.length ≤ 90000) ∧
  (∀ x s H', readO l = some s → Same H H' → IsSm K H' x s → Q x H') ∧ (readO l = none → ∀ C H', NT K mg C → Same H H' → E (.ref C) none H')
theorem item_of {l : List Nat} {H : Hp} {Q : VK} {E : XK} (hl : l.length ≤ 90000) (k1 : ∀ x r H', itemO l = some r → Same H H' → RV K H' x r → Q x H') (k2 : itemO l = none → ∀ C H', NT K mg C → Same H H' → E (.ref C) none H') : sp_item K mg [.str (S l)] H Q E := by
  refine ⟨⟨l, rfl, hl, fun j e => k1 _ _ H (itemO_j j e) (Same.refl _) (.j j), fun p e np => k1 _ _ _ (by rw [e]; exact itemO_nv) (same_new np) (.s (.nv (SqT.of upd_same))), fun p H1 h s1 np => k1 _ _ _ (itemO_nm h) (s1.trans (same_new np)) (.s (.lt (SqT.of upd_same))), fun h1 h2 h3 C H1 nt s1 => k2 (itemO_no h1 h2 h3) C H1 nt s1⟩⟩
theorem readGo_cons (below : List (List RI)) (cur : List RI) (w : List Nat) (ws : List (List Nat)) : readGo below cur (w :: ws) = if w = [40] then readGo (cur :: below) [] ws
    else if w = [41] then match below with
      | [] => none
      | b :: bs => match rowO cur with
        | none => none
        | some s => readGo bs (b ++ [.inr s]) ws
    else match itemO w with
      | none => none
      | some r => readGo below (cur ++ [r]) ws := by cases below <;> rfl
theorem txt_is {w c : List Nat} {x : Str} (e : x = S c) (h : decide (V.str (S w) = V.str x) = true) : w = c := by
  have z := of_decide_eq_true h
  injection z with z
  exact S_inj (z.trans e)
theorem txt_not {w c : List Nat} {x : Str} (e : x = S c) (h : ¬ decide (V.str (S w) = V.str x) = true) : w ≠ c := fun z => h (by rw [z, e]; exact decide_eq_true rfl)
theorem ok_read (T : Txt w K mg) (c__words : Cl P w K mg base 1 "_words" (sp_words K)) (c__item : ClX P w K mg base 2 "_item" (sp_item K mg)) (c__statement : ClX P w K mg base 4 "_statement" (sp_statement K mg)) : ClX P w K mg base 5 "read" (sp_read K mg) := by
  refine T.d_read.okX sc_read (fun vs H Q E h => ?_) (fun f cdv A outer s H vs Q E hr h => ?_)
  · obtain ⟨l, rfl, _⟩ := h
    rfl
  · obtain ⟨l, rfl, hpl, hws, hwl, q1, q2⟩ := h
    obtain ⟨C, nt⟩ := T.nt
    refine ⟨_, (pss_cons (ps_set (i := 1) sc_read.nd rfl (Or.inl rfl) (pe_lst (pa_cons (pe_lst pa_nil) pa_nil)))
    (pss_cons (ps_for (passes_of rfl) rfl (pi_listK (K := K) (pe_k c__words hr (by omega) rfl (pa_cons (pv 0) pa_nil))) (pg_name (i := 2) sc_read.nd rfl (Or.inl rfl))
      (pss_one (ps_if (pt_cmpR op_eq (pv 2) pe_str (nomark _))
          (pss_one (ps_expr (pe_bm PySem.F.plainAttrs_list PySem.F.slot_list_append PySem.F.type_list_append mt_append (pv 1) (pa_cons (pe_lst pa_nil) pa_nil))))
          (pss_one (ps_if (pt_cmpR op_eq (pv 2) pe_str (nomark _))
              (pss_cons (ps_if (pt_cmpR op_eq (pe_callB (r := rLenK K) call_len_seq rfl T.n_len (by decide +kernel) (pa_cons (pv 1) pa_nil)) pe_int (nomark _))
                  (pss_one (ps_raise rfl (takes_of rfl rfl rfl rfl) (pmk_own PySem.F.excBase_ValueError nt.xC nt.gC nt.kC (raises_own nt.bC nt.tC) rfl)))
                  pss_nil)
                (pss_cons (ps_set (i := 3) sc_read.nd rfl (Or.inl rfl) (pe_kX c__statement hr (by omega) (passes_call (takes_of rfl rfl rfl rfl) (fun _ _ _ _ h => h)) rfl (pa_cons (pe_bm0 PySem.F.plainAttrs_list PySem.F.slot_list_pop PySem.F.type_list_pop mt_pop (pv 1)) pa_nil)))
                (pss_one (ps_expr (pe_bm PySem.F.plainAttrs_list PySem.F.slot_list_append PySem.F.type_list_append mt_append (pe_ix (r := rIxL K) ix_list (pv 1) (pe_un un_neg pe_int) (fun _ _ => rfl)) (pa_cons (pv 3) pa_nil))))))
              (pss_one (ps_expr (pe_bm PySem.F.plainAttrs_list PySem.F.slot_list_append PySem.F.type_list_append mt_append (pe_ix (r := rIxL K) ix_list (pv 1) (pe_un un_neg pe_int) (fun _ _ => rfl)) (pa_cons (pe_kX c__item hr (by omega) (passes_call (takes_of rfl rfl rfl rfl) (fun _ _ _ _ h => h)) rfl (pa_cons (pv 2) pa_nil)) pa_nil)))))))))
    (pss_cons (ps_if (pt_cmpR op_gt (pe_callB (r := rLenK K) call_len_seq rfl T.n_len (by decide +kernel) (pa_cons (pv 1) pa_nil)) pe_int (nomark _))
      (pss_one (ps_raise rfl (takes_of rfl rfl rfl rfl) (pmk_own PySem.F.excBase_ValueError nt.xC nt.gC nt.kC (raises_own nt.bC nt.tC) rfl)))
      pss_nil)
    (pss_one (ps_ret (pe_kX c__statement hr (by omega) (passes_call (takes_of rfl rfl rfl rfl) (fun _ _ _ _ h => h)) rfl (pa_cons (pe_ix (r := rIxL K) ix_list (pv 1) pe_int (fun _ _ => rfl)) pa_nil))))))), ?_⟩
    have b40 : ("(" : Str) = S [40] := by decide +kernel
    have b41 : (")" : Str) = S [41] := by decide +kernel
    refine ⟨sz0, fun c nc => ⟨sz1, fun o no => ?_⟩⟩
    have nco : c ≠ o := ne_of_none upd_same no
    have no0 : H o = none := (same_new nc).free no
    have s2 : Same H (upd (upd H c (.lst [])) o (.lst [.ref c])) := (same_new nc).trans (same_new no)
    have ho : (upd (upd H c (.lst [])) o (.lst [.ref c])) o = some (.lst [.ref c]) := upd_same
    have hc : (upd (upd H c (.lst [])) o (.lst [.ref c])) c = some (.lst []) := by
      rw [upd_ne nco]
      exact upd_same
    show ∃ v, _ ∧ _
    generalize upd (upd H c (.lst [])) o (.lst [.ref c]) = H2 at s2 ho hc ⊢
    refine ⟨_, rfl, l, rfl, hpl, fun p H3 s3 np hp => ?_⟩
    have npo : p ≠ o := fun z => by rw [z, ho] at np; cases np
    have npc : p ≠ c := fun z => by rw [z, hc] at np; cases np
    obtain ⟨ws, ews⟩ : ∃ ws, wordsOf l = ws := ⟨_, rfl⟩
    rw [ews] at hp hws hwl
    refine ⟨p, rfl, ⟨_, SqL.of hp⟩, for_list (K := K) (a := p) (xs := ws.map fun w => V.str (S w)) (fun i σ H1 => ∃ (y z : Option V) (bs : List Addr) (br : List (List RI)) (c : Addr) (cx : List V) (cr : List RI),
      σ = [some (.str (S l)), some (.ref o), y, z] ∧ H1 o = some (.lst (bs.reverse.map V.ref ++ [.ref c])) ∧ PB K H1 bs br ∧ H1 c = some (.lst cx) ∧ Paired (RV K H1) cx cr ∧
      (c :: bs).Nodup ∧ o ∉ c :: bs ∧ (∀ b ∈ c :: bs, H b = none) ∧ p ∉ c :: bs ∧ H1 p = some (.lst (ws.map fun w => V.str (S w))) ∧ Same H H1 ∧
      readGo br cr (ws.drop i) = readO l ∧ (∀ r ∈ cr, RI.Ok r) ∧ (∀ b ∈ br, ∀ r ∈ b, RI.Ok r) ∧ cr.length ≤ i ∧ (∀ b ∈ br, b.length ≤ i) ∧ bs.length ≤ i) ?_ ?_ ?_ ?_⟩
    · refine ⟨_, _, [], [], c, [], [], rfl, s3 _ _ ho, .nil, s3 _ _ hc, .nil, by simp, by simpa using fun z => nco z.symm, fun b hb => ?_, by simpa using npc, hp, s2.trans s3, ?_, fun _ h => (nomatch h), fun _ h => (nomatch h), Nat.le_refl _, fun _ h => (nomatch h), Nat.le_refl _⟩
      · rw [List.mem_singleton.mp hb]
        exact nc
      · unfold readO
        rw [ews]
        rfl
    · rintro i σ H1 hi ⟨y, z, bs, br, c, cx, cr, rfl, _, _, _, _, _, _, _, _, hp1, _⟩
      exact SqL.of hp1
    · rintro i x σ H1 hi ⟨y, z, bs, br, c, cx, cr, rfl, ho, hB, hc, hcr, hnd, hno, hfr, hnp, hp1, sm, egr, okc, okb, lc, lb, ls⟩
      rw [List.getElem?_map] at hi
      obtain ⟨w, hw, rfl⟩ := Option.map_eq_some_iff.mp hi
      have hlt : i < ws.length := (List.getElem?_eq_some_iff.mp hw).1
      have ed : ws.drop i = w :: ws.drop (i + 1) := by
        rw [List.drop_eq_getElem_cons hlt]
        congr 1
        exact Option.some.inj ((List.getElem?_eq_getElem hlt).symm.trans hw)
      rw [ed, readGo_cons] at egr
      have nco : c ≠ o := fun e => hno (by rw [e]; exact List.mem_cons_self ..)
      have nob : o ∉ bs := fun e => hno (List.mem_cons_of_mem _ e)
      have ncb : c ∉ bs := (List.nodup_cons.mp hnd).1
      have hndb : bs.Nodup := (List.nodup_cons.mp hnd).2
      have nc0 : H c = none := hfr c (List.mem_cons_self ..)
      have npc : p ≠ c := fun e => hnp (by rw [e]; exact List.mem_cons_self ..)
      have npb : p ∉ bs := fun e => hnp (List.mem_cons_of_mem _ e)
      refine ⟨_, rfl, rfl, _, rfl, ite2 (fun h => ?_) (fun h => ?_)⟩
      · -- an open bracket
        rw [if_pos (txt_is b40 h)] at egr
        refine ⟨_, rfl, tyL ho, sz0, fun q nq => ⟨o, bs.reverse.map V.ref ++ [.ref c], .ref q, rfl, rfl, ?_, ?_, ?_⟩⟩
        · exact (same_new nq) _ _ ho
        · rw [List.length_append, List.length_map, List.length_reverse]
          exact small (show bs.length + 1 ≤ 100000 by omega)
        · have nq0 : H q = none := sm.free nq
          have nqo : q ≠ o := fun e => by rw [e, ho] at nq; cases nq
          have nqc : q ≠ c := fun e => by rw [e, hc] at nq; cases nq
          have nqp : q ≠ p := fun e => by rw [e, hp1] at nq; cases nq
          have nqb : q ∉ bs := fun e => hB.some q e nq
          have s4 : Same H1 (upd H1 q (.lst [])) := same_new nq
          have hq : (upd H1 q (.lst [])) q = some (.lst []) := upd_same
          generalize upd H1 q (.lst []) = H4 at s4 hq ⊢
          have tk : TK K H4 (upd H4 o (.lst (bs.reverse.map V.ref ++ [.ref c] ++ [.ref q]))) := TK.lst (s4 _ _ ho)
          refine ⟨_, _, c :: bs, cr :: br, q, [], [], rfl, ?_, ?_, ?_, .nil, ?_, ?_, ?_, ?_, ?_, same_put (sm.trans s4) no0, egr, fun _ h => (nomatch h), ?_, Nat.zero_le _, ?_, ?_⟩
          · rw [upd_same, List.reverse_cons, List.map_append]
            rfl
          · refine PB.put tk ?_ hno
            exact .cons ⟨cx, s4 _ _ hc, pair_map (fun _ _ r => r.same s4) hcr⟩ (hB.same s4)
          · rw [upd_ne nqo]
            exact hq
          · exact List.nodup_cons.mpr ⟨fun e => (List.mem_cons.mp e).elim nqc nqb, hnd⟩
          · exact fun e => (List.mem_cons.mp e).elim (fun e => nqo e.symm) hno
          · exact fun b hb => (List.mem_cons.mp hb).elim (fun e => by rw [e]; exact nq0) (hfr b)
          · exact fun e => (List.mem_cons.mp e).elim (fun e => nqp e.symm) hnp
          · rw [upd_ne npo]
            exact s4 _ _ hp1
          · exact fun b hb => (List.mem_cons.mp hb).elim (fun e => by rw [e]; exact okc) (okb b)
          · exact fun b hb => (List.mem_cons.mp hb).elim (fun e => by rw [e]; omega) (fun e => Nat.le_succ_of_le (lb b e))
          · rw [List.length_cons]
            omega
      · rw [if_neg (txt_not b40 h)] at egr
        refine ⟨_, rfl, rfl, _, rfl, ite2 (fun h => ?_) (fun h => ?_)⟩
        · -- a closed bracket
          rw [if_pos (txt_is b41 h)] at egr
          refine ⟨_, rfl, o, _, rfl, .inl (SqL.of ho), rfl, _, rfl, ite2 (fun h1 => ?_) (fun h1 => ?_)⟩
          · have e0 : bs = [] := by
              have z := of_decide_eq_true h1
              injection z with z
              rw [List.length_append, List.length_map, List.length_reverse] at z
              have z' : ((bs.length + 1 : Nat) : Int) = 1 := z
              exact List.length_eq_zero_iff.mp (by omega)
            subst e0
            cases hB
            exact q2 egr.symm C H1 nt sm
          · cases hB with
            | nil => exact absurd rfl h1
            | @cons b rb bt rt hb hBt =>
              obtain ⟨ys, hyb, hys⟩ := hb
              have nob' : b ≠ o := fun e => nob (by rw [e]; exact List.mem_cons_self ..)
              have nbt : b ∉ bt := (List.nodup_cons.mp hndb).1
              refine ⟨_, rfl, tyL ho, o, _, .ref c, rfl, rfl, ho, ?_, ?_⟩
              · rw [List.length_append, List.length_singleton, Nat.add_sub_cancel, List.getElem?_append_right (Nat.le_refl _), Nat.sub_self]
                rfl
              · rw [List.dropLast_concat, List.reverse_cons, List.map_append]
                have s4 : Same H (upd H1 o (.lst (bt.reverse.map V.ref ++ [V.ref b]))) := same_put sm no0
                have tk : TK K H1 (upd H1 o (.lst (bt.reverse.map V.ref ++ [V.ref b]))) := TK.lst ho
                have ho4 : (upd H1 o (.lst (bt.reverse.map V.ref ++ [V.ref b]))) o = some (.lst (bt.reverse.map V.ref ++ [V.ref b])) := upd_same
                have hc4 : (upd H1 o (.lst (bt.reverse.map V.ref ++ [V.ref b]))) c = some (.lst cx) := by
                  rw [upd_ne nco]
                  exact hc
                have hb4 : (upd H1 o (.lst (bt.reverse.map V.ref ++ [V.ref b]))) b = some (.lst ys) := by
                  rw [upd_ne nob']
                  exact hyb
                have hp4 : (upd H1 o (.lst (bt.reverse.map V.ref ++ [V.ref b]))) p = some (.lst (ws.map fun w => V.str (S w))) := by
                  rw [upd_ne npo]
                  exact hp1
                have hB4 : PB K (upd H1 o (.lst (bt.reverse.map V.ref ++ [V.ref b]))) bt rt := PB.put tk hBt (fun e => nob (List.mem_cons_of_mem _ e))
                have hys4 := pair_map (fun _ _ r => RV.tk tk r) hys
                have hcr4 := pair_map (fun _ _ r => RV.tk tk r) hcr
                show sp_statement K mg _ (upd H1 o (.lst (bt.reverse.map V.ref ++ [V.ref b]))) _ _
                generalize upd H1 o (.lst (bt.reverse.map V.ref ++ [V.ref b])) = H4 at s4 ho4 hc4 hb4 hp4 hB4 hys4 hcr4 ⊢
                refine ⟨.ref c, cr, rfl, ⟨c, cx, rfl, hc4, hcr4⟩, okc, by omega, fun x s H5 er s5 hx => ?_, fun er C H5 nt s5 => q2 ?_ C H5 nt (s4.trans s5)⟩
                · have egr' : readGo rt (rb ++ [(Sum.inr s : RI)]) (ws.drop (i + 1)) = readO l := by
                    rw [← egr]
                    show _ = match rowO cr with
                      | none => none
                      | some s => readGo rt (rb ++ [(Sum.inr s : RI)]) (ws.drop (i + 1))
                    rw [er]
                  have hb5 := s5 _ _ hb4
                  refine ⟨_, rfl, _, rfl, o, _, -1, _, rfl, rfl, SqL.of (s5 _ _ ho4), atI_last _ _, tyL hb5, _, rfl, b, ys, x, rfl, rfl, hb5, ?_, ?_⟩
                  · rw [pair_len hys]
                    exact small (by have := lb rb (List.mem_cons_self ..); omega)
                  · have tk5 : TK K H5 (upd H5 b (.lst (ys ++ [x]))) := TK.lst hb5
                    refine ⟨_, _, bt, rt, b, ys ++ [x], rb ++ [(Sum.inr s : RI)], rfl, ?_, PB.put tk5 (hB4.same s5) nbt, upd_same, pair_app (pair_map (fun _ _ r => (r.same s5).tk tk5) hys4) (.cons (.s (hx.tk tk5)) .nil), hndb, nob, fun d hd => hfr d (List.mem_cons_of_mem _ hd), npb, ?_, same_put (s4.trans s5) (hfr b (List.mem_cons_of_mem _ (List.mem_cons_self ..))), egr', ?_, fun d hd => okb d (List.mem_cons_of_mem _ hd), ?_, fun d hd => Nat.le_succ_of_le (lb d (List.mem_cons_of_mem _ hd)), ?_⟩
                    · rw [upd_ne nob'.symm]
                      exact s5 _ _ ho4
                    · rw [upd_ne (fun e => npb (by rw [e]; exact List.mem_cons_self ..))]
                      exact s5 _ _ hp4
                    · exact fun r hr => (List.mem_append.mp hr).elim (okb rb (List.mem_cons_self ..) r) (fun e => by rw [List.mem_singleton.mp e]; exact rowO_ok er okc)
                    · rw [List.length_append]
                      have := lb rb (List.mem_cons_self ..)
                      show rb.length + 1 ≤ i + 1
                      omega
                    · rw [List.length_cons] at ls
                      omega
                · rw [← egr]
                  show (match rowO cr with
                    | none => none
                    | some s => readGo rt (rb ++ [(Sum.inr s : RI)]) (ws.drop (i + 1))) = none
                  rw [er]
        · -- a word
          rw [if_neg (txt_not b41 h)] at egr
          refine ⟨_, rfl, _, rfl, o, _, -1, _, rfl, rfl, SqL.of ho, atI_last _ _, tyL hc, _, rfl, ?_⟩
          refine item_of (hwl w (List.mem_of_getElem? hw)) (fun x r H5 er s5 hx => ?_) (fun er C H5 nt s5 => q2 ?_ C H5 nt (sm.trans s5))
          · have hc5 := s5 _ _ hc
            have tk5 : TK K H5 (upd H5 c (.lst (cx ++ [x]))) := TK.lst hc5
            rw [er] at egr
            refine ⟨c, cx, x, rfl, rfl, hc5, ?_, ?_⟩
            · rw [pair_len hcr]
              exact small (by omega)
            · refine ⟨_, _, bs, br, c, cx ++ [x], cr ++ [r], rfl, ?_, PB.put tk5 (hB.same s5) ncb, upd_same, pair_app (pair_map (fun _ _ r => (r.same s5).tk tk5) hcr) (.cons (hx.tk tk5) .nil), hnd, hno, hfr, hnp, ?_, same_put (sm.trans s5) nc0, egr, ?_, okb, ?_, fun d hd => Nat.le_succ_of_le (lb d hd), by omega⟩
              · rw [upd_ne nco.symm]
                exact s5 _ _ ho
              · rw [upd_ne npc]
                exact s5 _ _ hp1
              · exact fun u hu => (List.mem_append.mp hu).elim (okc u) (fun e => by rw [List.mem_singleton.mp e]; exact itemO_ok er)
              · rw [List.length_append]
                show cr.length + 1 ≤ i + 1
                omega
          · rw [← egr, er]
    · rintro σ H1 ⟨y, z, bs, br, c, cx, cr, rfl, ho, hB, hc, hcr, hnd, hno, hfr, hnp, hp1, sm, egr, okc, okb, lc, lb, ls⟩
      rw [List.length_map] at egr lc
      rw [List.drop_length] at egr
      refine ⟨_, rfl, o, _, rfl, .inl (SqL.of ho), _, _, rfl, rfl, _, rfl, ite2 (fun h1 => ?_) (fun h1 => ?_)⟩
      · cases hB with
        | nil => exact absurd (of_decide_eq_true h1) (Int.lt_irrefl 1)
        | cons _ _ => exact q2 egr.symm C H1 nt sm
      · cases hB with
        | nil =>
          refine ⟨_, rfl, o, _, 0, _, rfl, rfl, SqL.of ho, at0, .ref c, cr, rfl, ⟨c, cx, rfl, hc, hcr⟩, okc, by omega, fun x s H5 er s5 hx => q1 x s H5 (egr.symm.trans er) (sm.trans s5) hx, fun er C H5 nt s5 => q2 (egr.symm.trans er) C H5 nt (sm.trans s5)⟩
        | cons _ _ =>
          refine absurd (decide_eq_true ?_) h1
          rw [List.length_append, List.length_map, List.length_reverse, List.length_cons]
          show (1 : Int) < ((_ + 1 + 1 : Nat) : Int)
          omega
/-! ### _law_cell -/
def sp_law_cell (K : PySem.W.Frag) : Sp := fun vs H Q _ => ∃ (a : Addr) (ns : List Int) (k : Nat), vs = [.ref a, .int k] ∧ SqL K H a (ns.map V.int) ∧ ∀ i : Int, Q (.int i) H
theorem ok_law_cell (T : Txt w K mg) : Cl P w K mg base 1 "_law_cell" (sp_law_cell K) := by
  refine T.d_law_cell.ok sc_law_cell (fun vs H Q E h => ?_) (fun f cdv A outer s H vs Q E hr h => ?_)
  · obtain ⟨a, ns, k, rfl, _⟩ := h
    rfl
  · obtain ⟨a, ns, k, rfl, hS, q⟩ := h
    refine ⟨_, (pss_cons (ps_if (pt_cmpR op_lt (pv 1) (pe_callB (r := rLenK K) call_len_seq rfl T.n_len (by decide +kernel) (pa_cons (pv 0) pa_nil)) (nomark _))
      (pss_one (ps_ret (pe_ix (r := rIxL K) ix_list (pv 0) (pv 1) (fun _ _ => rfl))))
      pss_nil)
    (pss_one (ps_ret (pe_op op_add (pv 1) pe_int)))), ?_⟩
    refine ⟨_, rfl, _, rfl, a, _, rfl, .inl hS, _, _, rfl, rfl, _, rfl, ite2 (fun c => ?_) (fun c => ?_)⟩
    · have c' : (k : Int) < (((ns.map V.int).length : Nat) : Int) := of_decide_eq_true c
      rw [List.length_map] at c'
      have hk : k < ns.length := by omega
      have g : (ns.map V.int)[k]? = some (.int ns[k]) := by
        rw [List.getElem?_map, List.getElem?_eq_getElem hk]
        rfl
      exact ⟨_, rfl, _, rfl, a, _, _, _, rfl, rfl, hS, atI_nat g, q _⟩
    · exact ⟨_, rfl, _, _, rfl, rfl, q _⟩
/-! ### _law_row -/
def sp_law_row (K : PySem.W.Frag) : Sp := fun vs H Q _ => ∃ (c : Int) (m : Nat), vs = [.int c, .int m] ∧ m ≤ 10000 ∧
  ∀ p H' (row : List Int), Same H H' → H p = none → H' p = some (.lst (row.map V.int)) → row.length = m → (∀ x ∈ row, 0 ≤ x ∧ x < 1009) → Q (.ref p) H'
theorem small_mod (z : Int) : -(2 ^ 64) < z % 2147483647 ∧ z % 2147483647 < 2 ^ 64 := ⟨Int.lt_of_lt_of_le (by decide) (Int.emod_nonneg _ (by decide)), Int.lt_trans (Int.emod_lt_of_pos _ (by decide)) (by decide)⟩
theorem ok_law_row (T : Txt w K mg) : Cl P w K mg base 1 "_law_row" (sp_law_row K) := by
  refine T.d_law_row.ok sc_law_row (fun vs H Q E h => ?_) (fun f cdv A outer s H vs Q E hr h => ?_)
  · obtain ⟨c, m, rfl, _⟩ := h
    rfl
  · obtain ⟨c, m, rfl, hm, q⟩ := h
    refine ⟨_, (pss_cons (ps_set (i := 2) sc_law_row.nd rfl (Or.inl rfl) (pe_lst pa_nil))
    (pss_cons (ps_set (i := 3) sc_law_row.nd rfl (Or.inl rfl) pe_int)
    (pss_cutO (ps_if (pt_cmpR op_ge (pv 0) (pe_op op_pow pe_int pe_int) (nomark _))
      (pss_one (ps_set (i := 3) sc_law_row.nd rfl (Or.inl rfl) (pv 0)))
      pss_nil)
    (pss_cons (ps_set (i := 4) sc_law_row.nd rfl (Or.inl rfl) (pe_op op_mod (pv 0) pe_int))
    (pss_cons (ps_for PassesOwn.never rfl (pi_range1 rfl T.n_range (pa_cons (pv 1) pa_nil)) (pg_name (i := 5) sc_law_row.nd rfl (Or.inl rfl))
      (pss_cons (ps_set (i := 4) sc_law_row.nd rfl (Or.inl rfl) (pe_op op_mod (pe_op op_add (pe_op op_add (pe_op op_mul (pv 4) pe_int) (pe_op op_mul pe_int (pv 5))) pe_int) pe_int))
        (pss_cons (ps_set (i := 4) sc_law_row.nd rfl (Or.inl rfl) (pe_op op_mod (pe_op op_mul (pv 4) (pe_op op_add (pe_op op_fdiv (pv 4) pe_int) pe_int)) pe_int))
        (pss_one (ps_if (pt_cmpR op_gt (pv 3) pe_int (nomark _))
          (pss_cons (ps_expr (pe_bm PySem.F.plainAttrs_list PySem.F.slot_list_append PySem.F.type_list_append mt_append (pv 2) (pa_cons (pe_op op_mod (pv 3) pe_int) pa_nil)))
            (pss_one (ps_set (i := 3) sc_law_row.nd rfl (Or.inl rfl) (pe_op op_fdiv (pv 3) pe_int))))
          (pss_one (ps_expr (pe_bm PySem.F.plainAttrs_list PySem.F.slot_list_append PySem.F.type_list_append mt_append (pv 2) (pa_cons (pe_op op_mod (pe_op op_fdiv (pv 4) pe_int) pe_int) pa_nil)))))))))
    (pss_one (ps_ret (pv 2)))))))), ?_⟩
    -- row, rest
    refine ⟨Nat.zero_le _, fun o no => ?_⟩
    -- if cell >= 10 ** 18
    refine ⟨fun σ' H' => ∃ r : Int, σ' = [some (.int c), some (.int m), some (.ref o), some (.int r), none, none] ∧ H' = upd H o (.lst []), ?_, fun σ' H' h1 => ?_⟩
    · refine ⟨_, rfl, _, _, rfl, rfl, ⟨by decide, by decide, by decide⟩, _, _, rfl, rfl, _, rfl, ite2 (fun _ => ?_) (fun _ => ?_)⟩
      · exact ⟨_, rfl, _, rfl, rfl⟩
      · exact ⟨_, rfl, rfl⟩
    · obtain ⟨r, rfl, rfl⟩ := h1
      refine ⟨_, rfl, _, _, rfl, rfl, (by show (0 : Int) < 2147483647; decide), ?_⟩
      refine ⟨_, rfl, _, rfl, by omega, by omega, for_range (lo := 0) (n := m) (fun i σ H3 => ∃ (rest num : Int) (y : Option V) (row : List Int), σ = [some (.int c), some (.int m), some (.ref o), some (.int rest), some (.int num), y] ∧ 0 ≤ num ∧ num < 2147483647 ∧
        H3 o = some (.lst (row.map V.int)) ∧ row.length = i ∧ (∀ x ∈ row, 0 ≤ x ∧ x < 1009) ∧ Same H H3) ?_ ?_ ?_⟩
      · exact ⟨_, _, _, [], rfl, Int.emod_nonneg _ (by decide), Int.emod_lt_of_pos _ (by decide), upd_same, rfl, fun _ h => (nomatch h), same_new no⟩
      · intro i σ H3 hi hp
        obtain ⟨rest, num, y, row, rfl, h0, h1, ho, hl, hr9, sm⟩ := hp
        -- number
        refine ⟨_, rfl, _, _, rfl, rfl, .inl ⟨by omega, by omega⟩, _, rfl, _, _, rfl, rfl, .inl ⟨by decide, by decide⟩, _, _, rfl, rfl, _, _, rfl, rfl, _, _, rfl, rfl, (by show (0 : Int) < 2147483647; decide), ?_⟩
        refine ⟨_, rfl, _, rfl, _, _, rfl, rfl, ⟨by decide, by decide⟩, _, _, rfl, rfl, _, _, rfl, rfl, .inl (small_mod _), _, _, rfl, rfl, (by show (0 : Int) < 2147483629; decide), ?_⟩
        have hz : (row.map V.int).length < sizeLine := by
          rw [List.length_map]
          exact small (by omega)
        have fin : ∀ z : Int, 0 ≤ z → z < 1009 → ∃ row' : List Int, upd H3 o (.lst (row.map V.int ++ [V.int z])) o = some (.lst (row'.map V.int)) ∧ row'.length = i + 1 ∧ (∀ x ∈ row', 0 ≤ x ∧ x < 1009) := fun z z0 z1 =>
          ⟨row ++ [z], by rw [upd_same, List.map_append]; rfl, by rw [List.length_append, hl]; rfl, fun x hx => by
            rcases List.mem_append.mp hx with hx | hx
            · exact hr9 x hx
            · rw [List.mem_singleton.mp hx]
              exact ⟨z0, z1⟩⟩
        refine ⟨_, rfl, _, _, rfl, rfl, _, rfl, ite2 (fun _ => ?_) (fun _ => ?_)⟩
        · refine ⟨_, rfl, tyL ho, _, rfl, _, _, rfl, rfl, (by show (0 : Int) < 1009; decide), o, _, _, rfl, rfl, ho, hz, ?_⟩
          refine ⟨_, rfl, _, _, rfl, rfl, ⟨by decide, by decide⟩, ?_⟩
          obtain ⟨row', e1, e2, e3⟩ := fin (rest % 1009) (Int.emod_nonneg _ (by decide)) (Int.emod_lt_of_pos _ (by decide))
          exact ⟨_, _, _, row', rfl, Int.emod_nonneg _ (by decide), Int.lt_trans (Int.emod_lt_of_pos _ (by decide)) (by decide), e1, e2, e3, same_put sm no⟩
        · refine ⟨_, rfl, tyL ho, _, rfl, _, _, rfl, rfl, ⟨by decide, by decide⟩, _, _, rfl, rfl, (by show (0 : Int) < 1009; decide), o, _, _, rfl, rfl, ho, hz, ?_⟩
          obtain ⟨row', e1, e2, e3⟩ := fin (_ / 7 % 1009) (Int.emod_nonneg _ (by decide)) (Int.emod_lt_of_pos _ (by decide))
          exact ⟨_, _, _, row', rfl, Int.emod_nonneg _ (by decide), Int.lt_trans (Int.emod_lt_of_pos _ (by decide)) (by decide), e1, e2, e3, same_put sm no⟩
      · intro σ H3 hp
        obtain ⟨rest, num, y, row, rfl, h0, h1, ho, hl, hr9, sm⟩ := hp
        exact ⟨_, rfl, q o H3 row sm no ho hl hr9⟩
/-! ### _law_text -/
def sp_law_text (K : PySem.W.Frag) : Sp := fun vs H Q _ => ∃ (a : Addr) (row : List Int), vs = [.ref a] ∧ H a = some (.lst (row.map V.int)) ∧ row.length = 20 ∧ (∀ x ∈ row, 0 ≤ x) ∧
  ∀ H' (l : List Nat), Same H H' → l.length ≤ 12 → Ch l → Q (.str (S l)) H'
theorem ok_law_text (T : Txt w K mg) : Cl P w K mg base 1 "_law_text" (sp_law_text K) := by
  refine T.d_law_text.ok sc_law_text (fun vs H Q E h => ?_) (fun f cdv A outer s H vs Q E hr h => ?_)
  · obtain ⟨a, row, rfl, _⟩ := h
    rfl
  · obtain ⟨a, row, rfl, hA, hlen, hpos, q⟩ := h
    refine ⟨_, (pss_cons (ps_set (i := 1) sc_law_text.nd rfl (Or.inr rfl) pe_str)
    (pss_cutO (ps_if (pt_cmpR op_eq (pe_op op_mod (pe_ix (r := rIxL K) ix_list (pv 0) pe_int (fun _ _ => rfl)) pe_int) pe_int (nomark _))
      (pss_one (ps_set (i := 1) sc_law_text.nd rfl (Or.inr rfl) pe_str))
      pss_nil)
    (pss_one (ps_ret (pe_join pe_str (pe_lc (own := [("_law_one", 2)]) rfl sc_law_text.nd (pi_listK (K := K) (pe_slice (r := rSlL K) sl_list (pv 0) (po_some pe_int) (po_some (pe_op op_add pe_int (pe_op op_mod (pe_op op_fdiv (pe_ix (r := rIxL K) ix_list (pv 0) pe_int (fun _ _ => rfl)) pe_int) pe_int))))) (blkOk_by (N := sc_law_textN) (sc := defScope s_law_text) (by decide +kernel)) (fun _ _ _ _ _ => (pg_name (i := 2) sc_law_text.nd rfl (Or.inl rfl))) (fun _ _ _ _ _ => pts_nil) (fun _ _ _ _ _ => (pe_ix ix_str (pv 1) (pe_op op_mod (pv 2) (pe_callB call_len_str rfl T.n_len (by decide +kernel) (pa_cons (pv 1) pa_nil))) (fun _ _ => rfl))))))))), ?_⟩
    cases row with
    | nil => cases hlen
    | cons r0 rest =>
      have h0 : 0 ≤ r0 := hpos r0 (List.mem_cons_self ..)
      have hA' : H a = some (.lst (V.int r0 :: rest.map V.int)) := hA
      refine ⟨fun σ' H' => ∃ z : List Nat, σ' = [some (.ref a), some (.str (S z)), none] ∧ H' = H ∧ 0 < z.length ∧ z.length ≤ 200 ∧ Ch z, ?_, fun σ' H' hm => ?_⟩
      · refine ⟨_, rfl, a, _, 0, _, rfl, rfl, SqL.of hA', at0, _, _, rfl, rfl, (show (0 : Int) < 2 by decide), rfl, _, rfl, ite2 (fun _ => ?_) (fun _ => ?_)⟩
        · exact ⟨("abcdefghijklmnopqrstuvwxyz" : Str).cps.toList, by rw [S_tl]; rfl, rfl, by decide +kernel, by decide +kernel, by unfold Ch; decide +kernel⟩
        · exact ⟨(" !\"#$&'()*+,-./0123456789:;<=>?@ABCDEFGHIJKLMNOPQRSTUVWXYZ[\\]^_`abcdefghijklmnopqrstuvwxyz{|}~" : Str).cps.toList, by rw [S_tl]; rfl, rfl, by decide +kernel, by decide +kernel, by unfold Ch; decide +kernel⟩
      · obtain ⟨z, rfl, rfl, hz0, hz, hzc⟩ := hm
        obtain ⟨n, en, hn⟩ : ∃ n : Nat, r0 / 2 % 13 = (n : Int) ∧ n < 13 := ⟨(r0 / 2 % 13).toNat, by have h1 := Int.emod_nonneg (r0 / 2) (show (13 : Int) ≠ 0 by decide); omega, by have h2 := Int.emod_lt_of_pos (r0 / 2) (show (0 : Int) < 13 by decide); have h1 := Int.emod_nonneg (r0 / 2) (show (13 : Int) ≠ 0 by decide); omega⟩
        refine ⟨⟨_, rfl⟩, _, rfl, 1, rfl, .ref a, rfl, a, _, 0, _, rfl, rfl, SqL.of hA', at0, _, _, rfl, rfl, ⟨by decide, by decide⟩, _, _, rfl, rfl, (show (0 : Int) < 13 by decide), _, _, rfl, rfl, _, rfl, a, _, rfl, SqL.of hA', fun pt npt => ?_⟩
        have ec : cutV (V.int r0 :: rest.map V.int) (some 1) (some (1 + r0 / 2 % 13)) = (rest.take n).map V.int := by
          rw [en, show (1 + (n : Int)) = ((1 + n : Nat) : Int) by omega, show (1 : Int) = ((1 : Nat) : Int) from rfl, cut_nat, show 1 + n - 1 = n by omega, List.drop_succ_cons, List.drop_zero, List.map_take]
        have hpt : (upd H' pt (.lst (cutV (V.int r0 :: rest.map V.int) (some 1) (some (1 + r0 / 2 % 13))))) pt = some (.lst ((rest.take n).map V.int)) := by
          rw [upd_same, ec]
        have sm5 : Same H' (upd H' pt (.lst (cutV (V.int r0 :: rest.map V.int) (some 1) (some (1 + r0 / 2 % 13))))) := same_new npt
        show ∃ a, V.ref pt = .ref a ∧ (∃ xs, SqL K (upd H' pt (.lst (cutV (V.int r0 :: rest.map V.int) (some 1) (some (1 + r0 / 2 % 13))))) a xs) ∧ _
        generalize upd H' pt (.lst (cutV (V.int r0 :: rest.map V.int) (some 1) (some (1 + r0 / 2 % 13)))) = H5 at hpt sm5 ⊢
        refine ⟨pt, rfl, ⟨_, SqL.of hpt⟩, fun D nD => ?_⟩
        refine lc_list (K := K) (a := pt) (xs := (rest.take n).map V.int) (fun j H6 => ∃ cs : List Nat, H6 D = some (.lst (cs.map fun c => V.str (S [c]))) ∧ cs.length = j ∧ Ch cs ∧ Same H5 H6) ?_ ?_ ?_ ?_
        · exact ⟨[], upd_same, rfl, fun _ h => (nomatch h), same_new nD⟩
        · intro j H6 hj hp
          obtain ⟨cs, _, _, _, s6⟩ := hp
          exact SqL.of (s6 _ _ hpt)
        · intro j x H6 hx hp
          obtain ⟨cs, hD, hcl, hcs, s6⟩ := hp
          rw [List.getElem?_map] at hx
          obtain ⟨u, hu, rfl⟩ := Option.map_eq_some_iff.mp hx
          have hjl : j < (rest.take n).length := (List.getElem?_eq_some_iff.mp hu).1
          rw [List.length_take] at hjl
          have hlen' : (S z).length = z.length := S_len z
          have hlp : (0 : Int) < ((S z).length : Int) := by rw [hlen']; omega
          have h1 := Int.emod_nonneg u (show ((S z).length : Int) ≠ 0 by omega)
          have h2 := Int.emod_lt_of_pos u hlp
          obtain ⟨k, ek⟩ : ∃ k : Nat, u % ((S z).length : Int) = (k : Int) := ⟨(u % ((S z).length : Int)).toNat, by omega⟩
          have hk : k < z.length := by omega
          have hat : atI (S z).cps.toList (u % ((S z).length : Int)) = some z[k] := by
            rw [ek]
            exact atI_nat (j := k) (List.getElem?_eq_getElem hk)
          have hzs : (S z).length ≤ sizeLine := by rw [hlen']; exact small' (by omega)
          refine ⟨rfl, _, rfl, _, rfl, _, rfl, _, rfl, hzs, _, _, rfl, rfl, hlp, S z, _, z[k], rfl, rfl, hzs, hat, _, hD, ?_, cs ++ [z[k]], ?_, ?_, ?_, same_put s6 nD⟩
          · rw [List.length_map, hcl]
            exact small (by omega)
          · rw [upd_same, List.map_append]
            rfl
          · rw [List.length_append, hcl]
            rfl
          · intro c hc
            rcases List.mem_append.mp hc with hc | hc
            · exact hcs c hc
            · rw [List.mem_singleton.mp hc]
              exact hzc _ (List.getElem_mem hk)
        · rintro H6 ⟨cs, hD, hcl, hcs, s6⟩
          have hl12 : cs.length ≤ 12 := by
            rw [hcl, List.length_map, List.length_take]
            omega
          refine ⟨"", D, cs.map fun c => S [c], rfl, rfl, .inl (SqL.of (by rw [List.map_map]; exact hD)), ?_, ?_⟩
          · rw [sum_ones, List.length_map]
            show cs.length + cs.length * 0 ≤ 16777216
            omega
          · rw [join_signs]
            exact q H6 cs (sm5.trans s6) hl12 hcs
/-! ### _law_due -/
def sp_law_due (K : PySem.W.Frag) : Sp := fun vs H Q _ => ∃ (l : List Nat), vs = [.str (S l)] ∧ l.length ≤ 100 ∧ ∀ H', Same H H' → Q (.bl (nmB l)) H'
theorem ok_law_due (T : Txt w K mg) : Cl P w K mg base 1 "_law_due" (sp_law_due K) := by
  refine T.d_law_due.ok sc_law_due (fun vs H Q E h => ?_) (fun f cdv A outer s H vs Q E hr h => ?_)
  · obtain ⟨l, rfl, _⟩ := h
    rfl
  · obtain ⟨l, rfl, hlen, q⟩ := h
    refine ⟨_, (pss_cutO (ps_if (PW.pt (pw_or (pt_cmpR (r := rIn K false) op_in_seq (pv 0) (pe_lst (pa_cons pe_str (pa_cons pe_str (pa_cons pe_str (pa_cons pe_str pa_nil))))) (by rfl)) (pw_or (pt_cmpR op_eq (pv 0) pe_str (nomark _)) (pw_or1 (pt_cmpR op_gt (pe_callB call_len_str rfl T.n_len (by decide +kernel) (pa_cons (pv 0) pa_nil)) pe_int (nomark _))))))
      (pss_one (ps_ret pe_bl))
      pss_nil)
    (pss_cons (ps_for PassesOwn.never rfl (pi_str (pv 0)) (pg_name (i := 1) sc_law_due.nd rfl (Or.inl rfl))
      (pss_one (ps_if (pt_cmpR op_notin_str (pv 1) pe_str (by rfl))
          (pss_one (ps_ret pe_bl))
          pss_nil)))
    (pss_one (ps_ret pe_bl)))), ?_⟩
    have eabc : ("abcdefghijklmnopqrstuvwxyz" : Str) = S [97, 98, 99, 100, 101, 102, 103, 104, 105, 106, 107, 108, 109, 110, 111, 112, 113, 114, 115, 116, 117, 118, 119, 120, 121, 122] := by decide +kernel
    have hz : (S l).length ≤ sizeLine := by
      rw [S_len]
      exact small' (by omega)
    have hc0 : ∀ c ∈ kept, flatV c = true := by decide +kernel
    refine ⟨fun σ' H' => σ' = [some (.str (S l)), none] ∧ Same H H' ∧ inV (.str (S l)) kept = false ∧ 1 ≤ l.length ∧ l.length ≤ 8, ?_, fun σ' H' hm => ?_⟩
    · refine ⟨_, rfl, sz4, fun p np => ⟨p, kept, rfl, .inl (SqL.of upd_same), rfl, List.all_eq_true.mpr hc0, _, rfl, ?_⟩⟩
      have sp : Same H (upd H p (.lst kept)) := same_new np
      show if inV (V.str (S l)) kept = true then _ else _
      refine ite2 (fun hc => iteT ?_) (fun hc => ⟨_, rfl, rfl, _, rfl, ite2 (fun h => iteT ?_) (fun h => ?_)⟩)
      · have e : nmB l = false := by
          unfold nmB
          rw [hc]
          simp
        have z := q _ sp
        rw [e] at z
        exact z
      · have e0 : l = [] := txt_is (c := []) (by decide +kernel) h
        have e : nmB l = false := by
          rw [e0]
          rfl
        have z := q _ sp
        rw [e] at z
        exact z
      · have n0 : l ≠ [] := txt_not (c := []) (by decide +kernel) h
        have l1 : 1 ≤ l.length := List.length_pos_iff.mpr n0
        refine ⟨_, rfl, _, rfl, hz, _, _, rfl, rfl, _, rfl, ?_⟩
        rw [S_len]
        refine ite2 (fun h8 => ?_) (fun h8 => ?_)
        · have h8' := of_decide_eq_true h8
          have e : nmB l = false := by
            unfold nmB
            rw [decide_eq_false (show ¬ l.length ≤ 8 by omega)]
            simp
          have z := q _ sp
          rw [e] at z
          exact z
        · have h8' : ¬ (8 : Int) < (l.length : Int) := fun z => h8 (decide_eq_true z)
          exact ⟨rfl, sp, by simpa using hc, l1, by omega⟩
    · obtain ⟨rfl, sm, hk, h1, h8⟩ := hm
      refine ⟨_, rfl, S l, rfl, for_str (l := l) (fun i σ H1 => ∃ y : Option V, σ = [some (.str (S l)), y] ∧ Same H H1 ∧ (l.take i).all (fun c => decide (97 ≤ c) && decide (c ≤ 122)) = true) ?_ ?_ ?_⟩
      · exact ⟨_, rfl, sm, rfl⟩
      · rintro i c σ H1 hx ⟨y, rfl, sm1, hall⟩
        have hlt : i < l.length := (List.getElem?_eq_some_iff.mp hx).1
        have hmem : c ∈ l := List.mem_of_getElem? hx
        refine ⟨_, rfl, _, _, rfl, rfl, _, rfl, ?_⟩
        rw [eabc, SX.in_one]
        by_cases hin : 97 ≤ c ∧ c ≤ 122
        · have hm : c ∈ [97, 98, 99, 100, 101, 102, 103, 104, 105, 106, 107, 108, 109, 110, 111, 112, 113, 114, 115, 116, 117, 118, 119, 120, 121, 122] := by
            obtain ⟨k, hk⟩ : ∃ k, c = 97 + k := ⟨c - 97, by omega⟩
            have : k < 26 := by omega
            rw [hk]
            exact (by decide +kernel : ∀ k, k < 26 → 97 + k ∈ [97, 98, 99, 100, 101, 102, 103, 104, 105, 106, 107, 108, 109, 110, 111, 112, 113, 114, 115, 116, 117, 118, 119, 120, 121, 122]) k this
          rw [decide_eq_true hm]
          refine iteF ⟨_, rfl, sm1, ?_⟩
          rw [List.take_add_one, hx, List.all_append, hall]
          show (true && (decide (97 ≤ c) && decide (c ≤ 122) && true)) = true
          rw [decide_eq_true hin.1, decide_eq_true hin.2]
          rfl
        · have hm : ¬ c ∈ [97, 98, 99, 100, 101, 102, 103, 104, 105, 106, 107, 108, 109, 110, 111, 112, 113, 114, 115, 116, 117, 118, 119, 120, 121, 122] := fun z => hin ((by decide +kernel : ∀ x ∈ [97, 98, 99, 100, 101, 102, 103, 104, 105, 106, 107, 108, 109, 110, 111, 112, 113, 114, 115, 116, 117, 118, 119, 120, 121, 122], 97 ≤ x ∧ x ≤ 122) c z)
          rw [decide_eq_false hm]
          have e : nmB l = false := by
            cases e : nmB l with
            | false => rfl
            | true => exact absurd ((nmB_iff.mp e).abc c hmem) hin
          have z := q _ sm1
          rw [e] at z
          exact iteT z
      · rintro σ H1 ⟨y, rfl, sm1, hall⟩
        rw [List.take_length] at hall
        have e : nmB l = true := by
          unfold nmB
          rw [decide_eq_true h1, decide_eq_true h8, hk, hall]
          rfl
        have z := q _ sm1
        rw [e] at z
        exact z
/-! ### _law_read -/
def sp_law_read (K : PySem.W.Frag) : Sp := fun vs H Q _ => ∃ (l : List Nat), vs = [.str (S l)] ∧ Plain l ∧ (wordsOf l).length ≤ 90000 ∧ (∀ w ∈ wordsOf l, w.length ≤ 90000) ∧
  (∀ x s H', readO l = some s → Same H H' → IsSm K H' x s → Q x H') ∧ (readO l = none → ∀ H', Same H H' → Q .non H')
theorem ok_law_read (T : Txt w K mg) (c_read : ClX P w K mg base 5 "read" (sp_read K mg)) : Cl P w K mg base 6 "_law_read" (sp_law_read K) := by
  refine T.d_law_read.ok sc_law_read (fun vs H Q E h => ?_) (fun f cdv A outer s H vs Q E hr h => ?_)
  · obtain ⟨l, rfl, _⟩ := h
    rfl
  · obtain ⟨l, rfl, hpl, h1, h2, q1, q2⟩ := h
    obtain ⟨C, nt⟩ := T.nt
    refine ⟨_, (pss_one (ps_try_only rfl rfl ⟨rfl, by decide, .inl nt.gC⟩ takes0 (fun W pn xe tk _ => (pss_one (ps_ret (pe_kS c_read hr (by omega) (fun σ => passAt tk σ) rfl (pa_cons (pv 0) pa_nil)))))
      (fun a oe cls d pn _ _ => (pss_one (ps_ret pe_non))))), ?_⟩
    refine ⟨_, rfl, l, rfl, hpl, h1, h2, fun x s H' e sm hx => q1 x s H' e sm hx, fun e C' H' nt' sm => ?_⟩
    cases nt.uniq nt'
    exact ⟨true, nt.eC, fun _ a ha => q2 e H' sm, fun q => nomatch q⟩
/-! ### _law_right -/
def sp_law_right (K : PySem.W.Frag) : Sp := fun vs H Q _ => ∃ (l : List Nat), vs = [.str (S l)] ∧ l.length ≤ 100 ∧ Ch l ∧ ∀ H', Same H H' → Q (.bl true) H'
theorem filter_one (p : Nat → Bool) (c : Nat) : List.filter p [c] = if p c = true then [c] else [] := by cases h : p c <;> simp [h]
theorem ok_law_right (T : Txt w K mg) (c__law_due : Cl P w K mg base 1 "_law_due" (sp_law_due K)) (c__law_read : Cl P w K mg base 6 "_law_read" (sp_law_read K)) (c_is_name : Cl P w K mg base 1 "is_name" (sp_is_name K)) : Cl P w K mg base 7 "_law_right" (sp_law_right K) := by
  refine T.d_law_right.ok sc_law_right (fun vs H Q E h => ?_) (fun f cdv A outer s H vs Q E hr h => ?_)
  · obtain ⟨l, rfl, _⟩ := h
    rfl
  · obtain ⟨l, rfl, hlen, hch, q⟩ := h
    refine ⟨_, (pss_cons (ps_set (i := 1) sc_law_right.nd rfl (Or.inl rfl) (pe_k c__law_due hr (by omega) rfl (pa_cons (pv 0) pa_nil)))
    (pss_cons (ps_set (i := 2) sc_law_right.nd rfl (Or.inl rfl) (pe_k c_is_name hr (by omega) rfl (pa_cons (pv 0) pa_nil)))
    (pss_cutO (ps_if (PW.pt (pw_or (pt_not (pt_val (pe_callB (r := rIsi K) call_isi rfl T.n_isinstance (by decide +kernel) (pa_cons (pv 2) (pa_cons (pe_bltn (v := .ty "bool") rfl T.n_bool (by decide +kernel) rfl) pa_nil))))) (pw_or1 (pt_cmpR op_ne (pv 2) (pv 1) (nomark _)))))
      (pss_one (ps_ret pe_bl))
      pss_nil)
    (pss_cutO (ps_if (pt_val (pv 1))
      (pss_one (ps_ret (pe_cmpR (r := rEqE K) (op_eqE hr.units) (pe_k c__law_read hr (by omega) rfl (pa_cons (pv 0) pa_nil)) (pe_tup (pa_cons pe_str (pa_cons (pv 0) pa_nil))) (nomark _))))
      pss_nil)
    (pss_cons (ps_setLc (i := 3) (own := [("_law_sign", 4)]) rfl sc_law_right.nd rfl rfl (sw_true rfl rfl rfl (by decide +kernel)) (pi_str (pv 0)) (blkOk_by (N := sc_law_rightN) (sc := defScope s_law_right) (by decide +kernel)) (fun _ _ _ _ _ => (pg_name (i := 4) sc_law_right.nd rfl (Or.inl rfl))) (fun _ _ _ _ _ => (pts_one (pt_cmpR op_in_str (pv 4) pe_str (by rfl)))) (fun _ _ _ _ _ => (pv 4)))
    (pss_cutO (ps_if (PW.pt (pw_and (pt_cmpR (r := rEqE K) (op_eqE hr.units) (pv 3) (pe_lst pa_nil) (nomark _)) (pw_and1 (pt_cmpR op_ne (pv 0) pe_str (nomark _)))))
      (pss_one (ps_ret (pe_cmpR op_isN (pe_k c__law_read hr (by omega) rfl (pa_cons (pv 0) pa_nil)) pe_non (nomark _))))
      pss_nil)
    (pss_one (ps_ret pe_bl)))))))), ?_⟩
    have sp3 : (" ()" : Str) = S [32, 40, 41] := by decide +kernel
    have enev : ("never" : Str) = S [110, 101, 118, 101, 114] := by decide +kernel
    refine ⟨_, rfl, l, rfl, hlen, fun H1 s1 => ⟨_, rfl, l, rfl, by omega, fun H2 s2 => ?_⟩⟩
    refine ⟨fun σ' H' => σ' = [some (.str (S l)), some (.bl (nmB l)), some (.bl (nmB l)), none, none] ∧ Same H H', ?_, fun σ' H3 hm => ?_⟩
    · refine ⟨_, rfl, _, _, .type "bool", .type "bool", true, rfl, .ty "bool", .base (.bl _), kit_ty (by decide +kernel), true, rfl, iteF ⟨_, rfl, _, rfl, rfl, _, rfl, ?_⟩⟩
      rw [decide_eq_true rfl]
      exact iteF ⟨rfl, s1.trans s2⟩
    · obtain ⟨rfl, s3⟩ := hm
      refine ⟨fun σ' H' => σ' = [some (.str (S l)), some (.bl (nmB l)), some (.bl (nmB l)), none, none] ∧ Same H H' ∧ nmB l = false, ?_, fun σ' H4 hm => ?_⟩
      · refine ⟨_, rfl, _, rfl, ite2 (fun hb => ?_) (fun hb => ⟨rfl, s3, by simpa using hb⟩)⟩
        have hn := nmB_iff.mp hb
        have hpl : Plain l := ⟨fun z => by have := hn.abc _ z; omega, fun z => by have := hn.abc _ z; omega, fun z => by have := hn.abc _ z; omega, by omega⟩
        obtain ⟨w1, w2⟩ := words_plain_len hpl
        refine ⟨_, rfl, l, rfl, hpl, w1, w2, fun x t H4 e s4 hx => ?_, fun e => by rw [read_name hpl hn] at e; cases e⟩
        rw [read_name hpl hn] at e
        have et : t = .lt l := (Option.some.inj e).symm
        subst et
        refine ⟨_, rfl, sz2, fun p np => ⟨(Sm.lt l).data, (Sm.lt l).data, (hx.same (same_new np)).dp, (IsSm.lt (SqT.of upd_same)).dp, Sm.lay (s := .lt l) hch, Sm.lay (s := .lt l) hch, ?_, ?_⟩⟩
        · have := (Sm.lt l).depth_le
          have e : (Sm.lt l).joints = 0 := rfl
          omega
        · rw [Sm.eqv, decide_eq_true rfl]
          exact q _ (s3.trans (s4.trans (same_new np)))
      · obtain ⟨rfl, s4, hnb⟩ := hm
        refine ⟨_, rfl, S l, rfl, fun D nD => ?_⟩
        refine lc_str (l := l) (fun i H5 => H5 D = some (.lst (((l.take i).filter fun c => decide (c ∈ [32, 40, 41])).map fun c => V.str (S [c]))) ∧ Same H4 H5) ?_ ?_ ?_
        · exact ⟨upd_same, same_new nD⟩
        · rintro i c H5 hx ⟨hD, s5⟩
          have hlt : i < l.length := (List.getElem?_eq_some_iff.mp hx).1
          refine ⟨rfl, _, rfl, _, _, rfl, rfl, _, rfl, ?_⟩
          rw [sp3, SX.in_one]
          have ef : ((l.take (i + 1)).filter fun c => decide (c ∈ [32, 40, 41])) = ((l.take i).filter fun c => decide (c ∈ [32, 40, 41])) ++ (if decide (c ∈ [32, 40, 41]) = true then [c] else []) := by
            rw [List.take_add_one, hx, List.filter_append]
            congr 1
            exact filter_one _ c
          refine ite2 (fun hc => ⟨_, rfl, _, hD, ?_, ?_, same_put s5 nD⟩) (fun hc => ⟨?_, s5⟩)
          · rw [List.length_map]
            have := List.length_filter_le (fun c => decide (c ∈ [32, 40, 41])) (l.take i)
            rw [List.length_take] at this
            exact small (by omega)
          · rw [upd_same, ef, if_pos hc, List.map_append]
            rfl
          · rw [ef, if_neg hc, List.append_nil]
            exact hD
        · rintro H5 ⟨hD, s5⟩
          rw [List.take_length] at hD
          have chf : Ch (l.filter fun c => decide (c ∈ [32, 40, 41])) := fun c hc => hch c (List.mem_filter.mp hc).1
          refine ⟨fun σ' H' => Same H H', ?_, fun σ' H6 s6 => q H6 s6⟩
          refine eq_nil (vl_var rfl) (SqL.of hD) (dpAll_signs _) (lay_signs chf) (fun p np => ⟨_, rfl, ?_⟩)
          have s6 : Same H (upd H5 p (.lst [])) := s4.trans (s5.trans (same_new np))
          refine ite2 (fun he => ⟨_, rfl, rfl, _, rfl, ite2 (fun hne => ?_) (fun _ => s6)⟩) (fun he => iteF s6)
          have nn : l ≠ [110, 101, 118, 101, 114] := fun z => by
            rw [Bool.not_eq_true', decide_eq_false_iff_not] at hne
            exact hne (by rw [z, enev])
          have hemp : (l.filter fun c => decide (c ∈ [32, 40, 41])) = [] := by
            have z := List.isEmpty_iff.mp he
            exact List.map_eq_nil_iff.mp z
          have hno : ∀ c ∈ l, c ∉ [32, 40, 41] := fun c hc z => by
            have : c ∈ l.filter fun c => decide (c ∈ [32, 40, 41]) := List.mem_filter.mpr ⟨hc, decide_eq_true z⟩
            rw [hemp] at this
            cases this
          have hpl : Plain l := ⟨fun z => hno _ z (by decide), fun z => hno _ z (by decide), fun z => hno _ z (by decide), by omega⟩
          obtain ⟨w1, w2⟩ := words_plain_len hpl
          refine ⟨_, rfl, l, rfl, hpl, w1, w2, fun x t H7 e => (by rw [read_not hpl hnb nn] at e; cases e), fun e H7 s7 => ⟨rfl, ?_⟩⟩
          rw [decide_eq_true rfl]
          exact q _ (s6.trans s7)
/-! ### law -/
theorem cutS_sub (l : List Nat) (lo hi : Option Int) : ∃ m, cutS (S l) lo hi = S m ∧ m.length ≤ l.length ∧ ∀ c ∈ m, c ∈ l := by
  refine ⟨(l.drop (HT.sIx (S l).length 0 lo)).take (HT.sIx (S l).length (S l).length hi - HT.sIx (S l).length 0 lo), rfl, ?_, fun c hc => List.mem_of_mem_drop (List.mem_of_mem_take hc)⟩
  rw [List.length_take, List.length_drop]
  omega
def good (x : Str) : Prop := x.cps.toList.length ≤ 50 ∧ ∀ c ∈ x.cps.toList, c < 1114112
instance (x : Str) : Decidable (good x) := inferInstanceAs (Decidable (_ ∧ _))
theorem good.len {x : Str} (h : good x) : x.length ≤ 50 := by
  have e : x.length = x.cps.toList.length := by
    show x.cps.size = _
    rw [Array.length_toList]
  rw [e]
  exact h.1
theorem good.right {K : PySem.W.Frag} {x : Str} {H : Hp} {Q : VK} {E : XK} (h : good x) (q : ∀ H', Same H H' → Q (.bl true) H') : sp_law_right K [.str x] H Q E := ⟨x.cps.toList, by rw [S_tl], Nat.le_trans h.1 (by decide), h.2, q⟩
def sp_law (K : PySem.W.Frag) : Sp := fun vs H Q _ => ∃ (a : Addr) (ns : List Int), vs = [.ref a] ∧ SqL K H a (ns.map V.int) ∧ ns.length ≤ 63 ∧ ∀ H', Q (.bl true) H'
theorem ok_law (T : Txt w K mg) (c__law_row : Cl P w K mg base 1 "_law_row" (sp_law_row K)) (c__law_text : Cl P w K mg base 1 "_law_text" (sp_law_text K)) (c__law_right : Cl P w K mg base 7 "_law_right" (sp_law_right K))
    {f : Addr} {fd : FuncData} (F : Fun K "law" "law" s_law f fd) : FnOk P w K mg base CX0 8 f fd ["_law_script"] (sp_law K) := by
  refine F.ok sc_law (fun vs H Q E h => ?_) (fun cdv A outer s H vs Q E hr h => ?_)
  · obtain ⟨a, ns, rfl, _⟩ := h
    rfl
  · obtain ⟨a, ns, rfl, hS, hlen, q⟩ := h
    refine ⟨_, (pss_cons (ps_set (i := 1) sc_law.nd rfl (Or.inl rfl) (pe_slice (r := rSlL K) sl_list (pv 0) po_none (po_some pe_int)))
    (pss_cutO (ps_if (pt_cmpR (r := rEqE K) (op_eqE hr.units) (pv 1) (pe_lst pa_nil) (nomark _))
      (pss_one (ps_set (i := 1) sc_law.nd rfl (Or.inl rfl) (pe_lst (pa_cons pe_int (pa_cons pe_int pa_nil)))))
      pss_nil)
    (pss_cons (ps_for PassesOwn.never rfl (pi_listK (K := K) (pv 1)) (pg_name (i := 2) sc_law.nd rfl (Or.inl rfl))
      (pss_cons (ps_set (i := 3) sc_law.nd rfl (Or.inl rfl) (pe_k c__law_row hr (by omega) rfl (pa_cons (pv 2) (pa_cons pe_int pa_nil))))
        (pss_cons (ps_set (i := 4) sc_law.nd rfl (Or.inl rfl) (pe_k c__law_text hr (by omega) rfl (pa_cons (pv 3) pa_nil)))
        (pss_cons (ps_set (i := 5) sc_law.nd rfl (Or.inl rfl) pe_str)
        (pss_cons (ps_set (i := 6) sc_law.nd rfl (Or.inl rfl) (pe_op op_mod (pe_ix (r := rIxL K) ix_list (pv 3) pe_int (fun _ _ => rfl)) (pe_callB (call_max2 rfl) rfl T.n_max (by decide +kernel) (pa_cons pe_int (pa_cons (pe_callB call_len_str rfl T.n_len (by decide +kernel) (pa_cons (pv 4) pa_nil)) pa_nil)))))
        (pss_cons (ps_set (i := 7) sc_law.nd rfl (Or.inl rfl) (pe_op op_add_str (pe_op op_add_str (pe_slice sl_str (pv 4) po_none (po_some (pv 6))) (pe_ix ix_str (pv 5) (pe_op op_mod (pe_ix (r := rIxL K) ix_list (pv 3) pe_int (fun _ _ => rfl)) pe_int) (fun _ _ => rfl))) (pe_slice sl_str (pv 4) (po_some (pe_op op_add (pv 6) pe_int)) po_none)))
        (pss_one (ps_if (PW.pt (pw_or (pt_not (pt_val (pe_k c__law_right hr (by omega) rfl (pa_cons (pv 4) pa_nil)))) (pw_or1 (pt_not (pt_val (pe_k c__law_right hr (by omega) rfl (pa_cons (pv 7) pa_nil)))))))
          (pss_one (ps_ret pe_bl))
          pss_nil))))))))
    (pss_cons (ps_for PassesOwn.never rfl (pi_listK (K := K) (pe_lst (pa_cons pe_str (pa_cons pe_str (pa_cons pe_str (pa_cons pe_str pa_nil)))))) (pg_name (i := 8) sc_law.nd rfl (Or.inl rfl))
      (pss_one (ps_for PassesOwn.never rfl (pi_listK (K := K) (pe_lst (pa_cons (pv 8) (pa_cons (pe_op op_add_str (pv 8) pe_str) (pa_cons (pe_op op_add_str pe_str (pv 8)) (pa_cons (pe_slice sl_str (pv 8) (po_some pe_int) po_none) (pa_cons (pe_slice sl_str (pv 8) po_none (po_some (pe_un un_neg pe_int))) (pa_cons (pe_upper (pv 8)) (pa_cons (pe_op op_add_str (pv 8) pe_str) pa_nil))))))))) (pg_name (i := 4) sc_law.nd rfl (Or.inl rfl))
          (pss_one (ps_if (pt_not (pt_val (pe_k c__law_right hr (by omega) rfl (pa_cons (pv 4) pa_nil))))
              (pss_one (ps_ret pe_bl))
              pss_nil)))))
    (pss_one (ps_ret pe_bl)))))), ?_⟩
    refine ⟨_, rfl, 12, rfl, a, _, rfl, hS, fun pc npc => ?_⟩
    have ec : cutV (ns.map V.int) none (some 12) = (ns.take 12).map V.int := by
      rw [show cutV (ns.map V.int) none (some 12) = (ns.map V.int).take 12 from cut_to _ 12, List.map_take]
    have hpc : (upd H pc (.lst (cutV (ns.map V.int) none (some 12)))) pc = some (.lst ((ns.take 12).map V.int)) := by
      rw [upd_same, ec]
    refine ⟨fun σ' H' => ∃ (pc : Addr) (cs : List Int), σ' = [some (.ref a), some (.ref pc), none, none, none, none, none, none, none] ∧ H' pc = some (.lst (cs.map V.int)), ?_, fun σ' H' h1 => ?_⟩
    · refine eq_nil (vl_var rfl) (SqL.of hpc) (dpAll_ints _) (lay_ints _) (fun p np => ⟨_, rfl, ite2 (fun _ => ?_) (fun _ => ?_)⟩)
      · exact ⟨sz2, fun p2 np2 => ⟨p2, [4, 19], rfl, upd_same⟩⟩
      · exact ⟨pc, _, rfl, by rw [upd_ne (ne_of_none hpc np)]; exact hpc⟩
    · obtain ⟨pc, cs, rfl, hpc⟩ := h1
      refine ⟨_, rfl, pc, rfl, ⟨_, SqL.of hpc⟩, for_list (K := K) (a := pc) (xs := cs.map V.int) (fun i σ H3 => ∃ y2 y3 y4 y5 y6 y7 : Option V, σ = [some (.ref a), some (.ref pc), y2, y3, y4, y5, y6, y7, none] ∧ Same H' H3) ?_ ?_ ?_ ?_⟩
      · exact ⟨_, _, _, _, _, _, rfl, Same.refl _⟩
      · rintro i σ H3 _ ⟨_, _, _, _, _, _, _, s4⟩
        exact SqL.of (s4 _ _ hpc)
      · rintro i x σ H3 hx ⟨y2, y3, y4, y5, y6, y7, rfl, s4⟩
        rw [List.getElem?_map] at hx
        obtain ⟨z, _, rfl⟩ := Option.map_eq_some_iff.mp hx
        refine ⟨_, rfl, z, 20, rfl, by decide, fun pr H4 row s5 npr hr hlr hrr => ?_⟩
        refine ⟨_, rfl, pr, row, rfl, hr, hlr, fun x hx => (hrr x hx).1, fun H5 l s6 hl hch => ?_⟩
        have hr5 := s6 _ _ hr
        have hz : (S l).length ≤ sizeLine := by
          rw [S_len]
          exact small' (by omega)
        obtain ⟨r18, h18⟩ : ∃ r, row[18]? = some r := ⟨_, List.getElem?_eq_getElem (by omega)⟩
        obtain ⟨r19, h19⟩ : ∃ r, row[19]? = some r := ⟨_, List.getElem?_eq_getElem (by omega)⟩
        have a18 : atI (row.map V.int) 18 = some (.int r18) := atI_nat (j := 18) (by rw [List.getElem?_map, h18]; rfl)
        have a19 : atI (row.map V.int) 19 = some (.int r19) := atI_nat (j := 19) (by rw [List.getElem?_map, h19]; rfl)
        refine ⟨_, rfl, pr, _, 18, _, rfl, rfl, SqL.of hr5, a18, _, rfl, _, rfl, hz, _, _, rfl, _, _, rfl, rfl, ?_, ?_⟩
        · by_cases h : ((S l).length : Int) > 1
          · rw [if_pos h]
            omega
          · rw [if_neg h]
            exact (by decide : (0 : Int) < 1)
        obtain ⟨m1, e1, l1, c1⟩ := cutS_sub l none (some (r18 % (if ((S l).length : Int) > 1 then ((S l).length : Int) else 1)))
        obtain ⟨m2, e2, l2, c2⟩ := cutS_sub l (some (r18 % (if ((S l).length : Int) > 1 then ((S l).length : Int) else 1) + 1)) none
        have b19 := Int.emod_nonneg r19 (show (8 : Int) ≠ 0 by decide)
        have d19 := Int.emod_lt_of_pos r19 (show (0 : Int) < 8 by decide)
        obtain ⟨k, ek, hk⟩ : ∃ k : Nat, r19 % 8 = (k : Int) ∧ k < 8 := ⟨(r19 % 8).toNat, by omega, by omega⟩
        obtain ⟨c, hc, hc2⟩ : ∃ c, atI (("_A0z -a{" : Str).cps.toList) (r19 % 8) = some c ∧ c < 1114112 := by
          have hlk : k < (("_A0z -a{" : Str).cps.toList).length := Nat.lt_of_lt_of_le hk (by decide +kernel)
          refine ⟨_, (by rw [ek]; exact atI_nat (j := k) (List.getElem?_eq_getElem hlk)), ?_⟩
          exact (by decide +kernel : ∀ c ∈ (("_A0z -a{" : Str).cps.toList), c < 1114112) _ (List.getElem_mem hlk)
        refine ⟨_, rfl, _, rfl, _, rfl, S l, rfl, hz, _, rfl, _, rfl, pr, _, 19, _, rfl, rfl, SqL.of hr5, a19, _, _, rfl, rfl, (show (0 : Int) < 8 by decide), _, _, c, rfl, rfl, by decide +kernel, hc, _, _, rfl, rfl, ?_, ?_⟩
        · rw [e1, S_len]
          show m1.length + 1 ≤ sizeLine
          exact small' (by omega)
        refine ⟨_, rfl, _, rfl, _, _, rfl, rfl, _, rfl, S l, rfl, hz, _, _, rfl, rfl, ?_, ?_⟩
        · rw [e1, e2, S_cat m1 [c], S_len, S_len, List.length_append]
          show m1.length + 1 + m2.length ≤ sizeLine
          exact small' (by omega)
        have eo : (cutS (S l) none (some (r18 % (if ((S l).length : Int) > 1 then ((S l).length : Int) else 1))) ++ (⟨#[c]⟩ : Str)) ++ cutS (S l) (some (r18 % (if ((S l).length : Int) > 1 then ((S l).length : Int) else 1) + 1)) none = S (m1 ++ [c] ++ m2) := by
          rw [e1, e2]
          exact (congrArg (· ++ S m2) (S_cat m1 [c])).trans (S_cat (m1 ++ [c]) m2)
        show (fun σ (H : Hp) => _) _ _
        rw [eo]
        have ho : (m1 ++ [c] ++ m2).length ≤ 100 := by
          rw [List.length_append, List.length_append]
          show m1.length + 1 + m2.length ≤ 100
          omega
        have hco : Ch (m1 ++ [c] ++ m2) := fun d hd => by
          rcases List.mem_append.mp hd with hd | hd
          · rcases List.mem_append.mp hd with hd | hd
            · exact hch d (c1 d hd)
            · rw [List.mem_singleton.mp hd]
              exact hc2
          · exact hch d (c2 d hd)
        refine ⟨_, rfl, l, rfl, by omega, hch, fun H6 s7 => ⟨true, rfl, iteF ⟨_, rfl, _, rfl, ho, hco, fun H7 s8 => ⟨true, rfl, iteF ?_⟩⟩⟩⟩
        exact ⟨_, _, _, _, _, _, rfl, s4.trans (s5.trans (s6.trans (s7.trans s8)))⟩
      · rintro σ H3 ⟨y2, y3, y4, y5, y6, y7, rfl, s4⟩
        refine ⟨sz4, fun pw npw => ⟨pw, rfl, ⟨_, SqL.of upd_same⟩, ?_⟩⟩
        have hw : (upd H3 pw (.lst [V.str "and", V.str "or", V.str "then", V.str "never"])) pw = some (.lst [V.str "and", V.str "or", V.str "then", V.str "never"]) := upd_same
        generalize upd H3 pw (.lst [V.str "and", V.str "or", V.str "then", V.str "never"]) = H4 at hw ⊢
        refine for_list (K := K) (a := pw) (xs := [V.str "and", V.str "or", V.str "then", V.str "never"]) (fun i σ H5 => ∃ y4 y8 : Option V, σ = [some (.ref a), some (.ref pc), y2, y3, y4, y5, y6, y7, y8] ∧ Same H4 H5) ?_ ?_ ?_ ?_
        · exact ⟨_, _, rfl, Same.refl _⟩
        · rintro i σ H5 _ ⟨_, _, _, s5⟩
          exact SqL.of (s5 _ _ hw)
        · rintro i x σ H5 hx ⟨y4, y8, rfl, s5⟩
          have hm : x ∈ [V.str "and", V.str "or", V.str "then", V.str "never"] := List.mem_of_getElem? hx
          obtain ⟨wd, rfl, g1, g2, g3, g4, g5, g6, g7⟩ : ∃ wd : Str, x = .str wd ∧ good wd ∧ good (wd ++ "s") ∧ good ("n" ++ wd) ∧ good (cutS wd (some 1) none) ∧ good (cutS wd none (some (-1))) ∧ good (Txt.upper wd) ∧ good (wd ++ " ") := by
            rcases List.mem_cons.mp hm with rfl | hm
            · exact ⟨_, rfl, by decide +kernel, by decide +kernel, by decide +kernel, by decide +kernel, by decide +kernel, by decide +kernel, by decide +kernel⟩
            rcases List.mem_cons.mp hm with rfl | hm
            · exact ⟨_, rfl, by decide +kernel, by decide +kernel, by decide +kernel, by decide +kernel, by decide +kernel, by decide +kernel, by decide +kernel⟩
            rcases List.mem_cons.mp hm with rfl | hm
            · exact ⟨_, rfl, by decide +kernel, by decide +kernel, by decide +kernel, by decide +kernel, by decide +kernel, by decide +kernel, by decide +kernel⟩
            rcases List.mem_cons.mp hm with rfl | hm
            · exact ⟨_, rfl, by decide +kernel, by decide +kernel, by decide +kernel, by decide +kernel, by decide +kernel, by decide +kernel, by decide +kernel⟩
            · cases hm
          have lw := g1.len
          have l1 : (wd.length + 1 ≤ sizeLine) := small' (by omega)
          refine ⟨_, rfl, _, rfl, _, _, rfl, rfl, l1, _, rfl, _, _, rfl, rfl, by rw [Nat.add_comm] at l1; exact l1, _, rfl, 1, rfl, wd, rfl, small' (by omega), _, rfl, _, rfl, -1, rfl, wd, rfl, small' (by omega), _, rfl, ⟨_, rfl⟩, wd, rfl, rfl, by omega, _, rfl, _, _, rfl, rfl, l1, (by show 7 ≤ sizeLine; decide), fun pl npl => ?_⟩
          refine ⟨pl, rfl, ⟨_, SqL.of upd_same⟩, ?_⟩
          have hl : (upd H5 pl (.lst [V.str wd, V.str (wd ++ "s"), V.str ("n" ++ wd), V.str (cutS wd (some 1) none), V.str (cutS wd none (some (-1))), V.str (Txt.upper wd), V.str (wd ++ " ")])) pl = some (.lst [V.str wd, V.str (wd ++ "s"), V.str ("n" ++ wd), V.str (cutS wd (some 1) none), V.str (cutS wd none (some (-1))), V.str (Txt.upper wd), V.str (wd ++ " ")]) := upd_same
          have s6 : Same H5 (upd H5 pl (.lst [V.str wd, V.str (wd ++ "s"), V.str ("n" ++ wd), V.str (cutS wd (some 1) none), V.str (cutS wd none (some (-1))), V.str (Txt.upper wd), V.str (wd ++ " ")])) := same_new npl
          generalize upd H5 pl (.lst [V.str wd, V.str (wd ++ "s"), V.str ("n" ++ wd), V.str (cutS wd (some 1) none), V.str (cutS wd none (some (-1))), V.str (Txt.upper wd), V.str (wd ++ " ")]) = H6 at hl s6 ⊢
          refine for_list (K := K) (a := pl) (xs := [V.str wd, V.str (wd ++ "s"), V.str ("n" ++ wd), V.str (cutS wd (some 1) none), V.str (cutS wd none (some (-1))), V.str (Txt.upper wd), V.str (wd ++ " ")]) (fun i σ H7 => ∃ y4 : Option V, σ = [some (.ref a), some (.ref pc), y2, y3, y4, y5, y6, y7, some (.str wd)] ∧ Same H6 H7) ?_ ?_ ?_ ?_
          · exact ⟨_, rfl, Same.refl _⟩
          · rintro i σ H7 _ ⟨_, _, s7⟩
            exact SqL.of (s7 _ _ hl)
          · rintro i x σ H7 hx ⟨y4, rfl, s7⟩
            have hm : x ∈ [V.str wd, V.str (wd ++ "s"), V.str ("n" ++ wd), V.str (cutS wd (some 1) none), V.str (cutS wd none (some (-1))), V.str (Txt.upper wd), V.str (wd ++ " ")] := List.mem_of_getElem? hx
            obtain ⟨t, rfl, gt⟩ : ∃ t : Str, x = .str t ∧ good t := by
              simp only [List.mem_cons, List.not_mem_nil, or_false] at hm
              rcases hm with rfl | rfl | rfl | rfl | rfl | rfl | rfl
              · exact ⟨_, rfl, g1⟩
              · exact ⟨_, rfl, g2⟩
              · exact ⟨_, rfl, g3⟩
              · exact ⟨_, rfl, g4⟩
              · exact ⟨_, rfl, g5⟩
              · exact ⟨_, rfl, g6⟩
              · exact ⟨_, rfl, g7⟩
            exact ⟨_, rfl, t.cps.toList, (by rw [S_tl]; rfl), Nat.le_trans gt.1 (by decide), gt.2, fun H8 s8 => ⟨true, rfl, iteF ⟨_, rfl, s7.trans s8⟩⟩⟩
          · rintro σ H7 ⟨y4, rfl, s7⟩
            exact ⟨_, _, rfl, s5.trans (s6.trans s7)⟩
        · rintro σ H5 ⟨y4, y8, rfl, s5⟩
          exact q H5
end
theorem all_law {P : Program} {w : World} {K : PySem.W.Frag} {mg : Str → Option Value} (T : Txt w K mg) {f : Addr} {fd : FuncData} (F : Fun K "law" "law" s_law f fd) (base : Heap) :
    FnOk P w K mg base CX0 8 f fd ["_law_script"] (sp_law K) := by
  have c_is_name := ok_is_name (P := P) (w := w) (base := base) T
  have c__words := ok_words (P := P) (w := w) (base := base) T
  have c__item := ok_item (P := P) (w := w) (base := base) T c_is_name
  have c__parted := ok_parted (P := P) (w := w) (base := base) T
  have c__from_left := ok_from_left (P := P) (w := w) (base := base) T
  have c__thing := ok_thing (P := P) (w := w) (base := base) T
  have c__row_of_ands := ok_row_of_ands (P := P) (w := w) (base := base) T c__parted c__from_left c__thing
  have c__row_of_ors := ok_row_of_ors (P := P) (w := w) (base := base) T c__parted c__from_left c__row_of_ands
  have c__statement := ok_statement (P := P) (w := w) (base := base) T c__parted c__row_of_ors
  have c_read := ok_read (P := P) (w := w) (base := base) T c__words c__item c__statement
  have c__law_cell := ok_law_cell (P := P) (w := w) (base := base) T
  have c__law_row := ok_law_row (P := P) (w := w) (base := base) T
  have c__law_text := ok_law_text (P := P) (w := w) (base := base) T
  have c__law_due := ok_law_due (P := P) (w := w) (base := base) T
  have c__law_read := ok_law_read (P := P) (w := w) (base := base) T c_read
  have c__law_right := ok_law_right (P := P) (w := w) (base := base) T c__law_due c__law_read c_is_name
  exact ok_law T c__law_row c__law_text c__law_right F
theorem all_mk {l : PySem.W.OpenLaw} {w : World} {K : PySem.W.Frag} {h : Heap} {mg : Str → Option Value} {fa f0 f1 f2 f3 f4 f5 f6 f7 f8 f9 f10 f11 f12 f13 f14 f15 f16 : Addr} (X : K.In h) (G : h.Ns mainGlobals mg) (hfa : mg "law" = some (.ref fa))
    {od0 an0 od1 an1 od2 an2 od3 an3 od4 an4 od5 an5 od6 an6 od7 an7 od8 an8 od9 an9 od10 an10 od11 an11 od12 an12 od13 an13 od14 an14 od15 an15 od16 an16 : Option Addr} {sl0 sl1 sl2 sl3 sl4 sl5 sl6 sl7 sl8 sl9 sl10 sl11 sl12 sl13 sl14 sl15 sl16 : Array (Option Value)} {oc0 kV0 dc0 pm0 cd0 ct0 oc1 kV1 dc1 pm1 cd1 ct1 oc2 kV2 dc2 pm2 cd2 ct2 oc3 kV3 dc3 pm3 cd3 ct3 oc4 kV4 dc4 pm4 cd4 ct4 oc5 kV5 dc5 pm5 cd5 ct5 oc6 kV6 dc6 pm6 cd6 ct6 oc7 kV7 dc7 pm7 cd7 ct7 oc8 kV8 dc8 pm8 cd8 ct8 oc9 kV9 dc9 pm9 cd9 ct9 oc10 kV10 dc10 pm10 cd10 ct10 oc11 kV11 dc11 pm11 cd11 ct11 oc12 kV12 dc12 pm12 cd12 ct12 oc13 kV13 dc13 pm13 cd13 ct13 oc14 kV14 dc14 pm14 cd14 ct14 oc15 kV15 dc15 pm15 cd15 ct15 oc16 kV16 dc16 pm16 cd16 ct16 : Value}
    (a0 : PySem.W.nsIn K mainGlobals "is_name" = some (some (.ref f0))) (l0 : K.lookup f0 = some ⟨oc0, od0, .func (PySem.W.fnOf "is_name" "is_name" (defArgs s_is_name) (defBody s_is_name) (defScope s_is_name) .none kV0 dc0 pm0 an0 cd0 ct0), sl0⟩) (c0 : PySem.W.codeIn K cd0 "is_name" = true) (k0 : PySem.W.keepIn K (.ref f0) = true)
    (a1 : PySem.W.nsIn K mainGlobals "_words" = some (some (.ref f1))) (l1 : K.lookup f1 = some ⟨oc1, od1, .func (PySem.W.fnOf "_words" "_words" (defArgs s_words) (defBody s_words) (defScope s_words) .none kV1 dc1 pm1 an1 cd1 ct1), sl1⟩) (c1 : PySem.W.codeIn K cd1 "_words" = true) (k1 : PySem.W.keepIn K (.ref f1) = true)
    (a2 : PySem.W.nsIn K mainGlobals "_item" = some (some (.ref f2))) (l2 : K.lookup f2 = some ⟨oc2, od2, .func (PySem.W.fnOf "_item" "_item" (defArgs s_item) (defBody s_item) (defScope s_item) .none kV2 dc2 pm2 an2 cd2 ct2), sl2⟩) (c2 : PySem.W.codeIn K cd2 "_item" = true) (k2 : PySem.W.keepIn K (.ref f2) = true)
    (a3 : PySem.W.nsIn K mainGlobals "_parted" = some (some (.ref f3))) (l3 : K.lookup f3 = some ⟨oc3, od3, .func (PySem.W.fnOf "_parted" "_parted" (defArgs s_parted) (defBody s_parted) (defScope s_parted) .none kV3 dc3 pm3 an3 cd3 ct3), sl3⟩) (c3 : PySem.W.codeIn K cd3 "_parted" = true) (k3 : PySem.W.keepIn K (.ref f3) = true)
    (a4 : PySem.W.nsIn K mainGlobals "_from_left" = some (some (.ref f4))) (l4 : K.lookup f4 = some ⟨oc4, od4, .func (PySem.W.fnOf "_from_left" "_from_left" (defArgs s_from_left) (defBody s_from_left) (defScope s_from_left) .none kV4 dc4 pm4 an4 cd4 ct4), sl4⟩) (c4 : PySem.W.codeIn K cd4 "_from_left" = true) (k4 : PySem.W.keepIn K (.ref f4) = true)
    (a5 : PySem.W.nsIn K mainGlobals "_thing" = some (some (.ref f5))) (l5 : K.lookup f5 = some ⟨oc5, od5, .func (PySem.W.fnOf "_thing" "_thing" (defArgs s_thing) (defBody s_thing) (defScope s_thing) .none kV5 dc5 pm5 an5 cd5 ct5), sl5⟩) (c5 : PySem.W.codeIn K cd5 "_thing" = true) (k5 : PySem.W.keepIn K (.ref f5) = true)
    (a6 : PySem.W.nsIn K mainGlobals "_row_of_ands" = some (some (.ref f6))) (l6 : K.lookup f6 = some ⟨oc6, od6, .func (PySem.W.fnOf "_row_of_ands" "_row_of_ands" (defArgs s_row_of_ands) (defBody s_row_of_ands) (defScope s_row_of_ands) .none kV6 dc6 pm6 an6 cd6 ct6), sl6⟩) (c6 : PySem.W.codeIn K cd6 "_row_of_ands" = true) (k6 : PySem.W.keepIn K (.ref f6) = true)
    (a7 : PySem.W.nsIn K mainGlobals "_row_of_ors" = some (some (.ref f7))) (l7 : K.lookup f7 = some ⟨oc7, od7, .func (PySem.W.fnOf "_row_of_ors" "_row_of_ors" (defArgs s_row_of_ors) (defBody s_row_of_ors) (defScope s_row_of_ors) .none kV7 dc7 pm7 an7 cd7 ct7), sl7⟩) (c7 : PySem.W.codeIn K cd7 "_row_of_ors" = true) (k7 : PySem.W.keepIn K (.ref f7) = true)
    (a8 : PySem.W.nsIn K mainGlobals "_statement" = some (some (.ref f8))) (l8 : K.lookup f8 = some ⟨oc8, od8, .func (PySem.W.fnOf "_statement" "_statement" (defArgs s_statement) (defBody s_statement) (defScope s_statement) .none kV8 dc8 pm8 an8 cd8 ct8), sl8⟩) (c8 : PySem.W.codeIn K cd8 "_statement" = true) (k8 : PySem.W.keepIn K (.ref f8) = true)
    (a9 : PySem.W.nsIn K mainGlobals "read" = some (some (.ref f9))) (l9 : K.lookup f9 = some ⟨oc9, od9, .func (PySem.W.fnOf "read" "read" (defArgs s_read) (defBody s_read) (defScope s_read) .none kV9 dc9 pm9 an9 cd9 ct9), sl9⟩) (c9 : PySem.W.codeIn K cd9 "read" = true) (k9 : PySem.W.keepIn K (.ref f9) = true)
    (a10 : PySem.W.nsIn K mainGlobals "_law_cell" = some (some (.ref f10))) (l10 : K.lookup f10 = some ⟨oc10, od10, .func (PySem.W.fnOf "_law_cell" "_law_cell" (defArgs s_law_cell) (defBody s_law_cell) (defScope s_law_cell) .none kV10 dc10 pm10 an10 cd10 ct10), sl10⟩) (c10 : PySem.W.codeIn K cd10 "_law_cell" = true) (k10 : PySem.W.keepIn K (.ref f10) = true)
    (a11 : PySem.W.nsIn K mainGlobals "_law_row" = some (some (.ref f11))) (l11 : K.lookup f11 = some ⟨oc11, od11, .func (PySem.W.fnOf "_law_row" "_law_row" (defArgs s_law_row) (defBody s_law_row) (defScope s_law_row) .none kV11 dc11 pm11 an11 cd11 ct11), sl11⟩) (c11 : PySem.W.codeIn K cd11 "_law_row" = true) (k11 : PySem.W.keepIn K (.ref f11) = true)
    (a12 : PySem.W.nsIn K mainGlobals "_law_text" = some (some (.ref f12))) (l12 : K.lookup f12 = some ⟨oc12, od12, .func (PySem.W.fnOf "_law_text" "_law_text" (defArgs s_law_text) (defBody s_law_text) (defScope s_law_text) .none kV12 dc12 pm12 an12 cd12 ct12), sl12⟩) (c12 : PySem.W.codeIn K cd12 "_law_text" = true) (k12 : PySem.W.keepIn K (.ref f12) = true)
    (a13 : PySem.W.nsIn K mainGlobals "_law_due" = some (some (.ref f13))) (l13 : K.lookup f13 = some ⟨oc13, od13, .func (PySem.W.fnOf "_law_due" "_law_due" (defArgs s_law_due) (defBody s_law_due) (defScope s_law_due) .none kV13 dc13 pm13 an13 cd13 ct13), sl13⟩) (c13 : PySem.W.codeIn K cd13 "_law_due" = true) (k13 : PySem.W.keepIn K (.ref f13) = true)
    (a14 : PySem.W.nsIn K mainGlobals "_law_read" = some (some (.ref f14))) (l14 : K.lookup f14 = some ⟨oc14, od14, .func (PySem.W.fnOf "_law_read" "_law_read" (defArgs s_law_read) (defBody s_law_read) (defScope s_law_read) .none kV14 dc14 pm14 an14 cd14 ct14), sl14⟩) (c14 : PySem.W.codeIn K cd14 "_law_read" = true) (k14 : PySem.W.keepIn K (.ref f14) = true)
    (a15 : PySem.W.nsIn K mainGlobals "_law_right" = some (some (.ref f15))) (l15 : K.lookup f15 = some ⟨oc15, od15, .func (PySem.W.fnOf "_law_right" "_law_right" (defArgs s_law_right) (defBody s_law_right) (defScope s_law_right) .none kV15 dc15 pm15 an15 cd15 ct15), sl15⟩) (c15 : PySem.W.codeIn K cd15 "_law_right" = true) (k15 : PySem.W.keepIn K (.ref f15) = true)
    (a16 : PySem.W.nsIn K mainGlobals "law" = some (some (.ref f16))) (l16 : K.lookup f16 = some ⟨oc16, od16, .func (PySem.W.fnOf "law" "law" (defArgs s_law) (defBody s_law) (defScope s_law) .none kV16 dc16 pm16 an16 cd16 ct16), sl16⟩) (c16 : PySem.W.codeIn K cd16 "law" = true) (k16 : PySem.W.keepIn K (.ref f16) = true)
    (z0 : PySem.W.nsIn K mainGlobals "ValueError" = some none)
    (z1 : PySem.W.nsIn K mainGlobals "all" = some none)
    (z2 : PySem.W.nsIn K mainGlobals "bool" = some none)
    (z3 : PySem.W.nsIn K mainGlobals "isinstance" = some none)
    (z4 : PySem.W.nsIn K mainGlobals "len" = some none)
    (z5 : PySem.W.nsIn K mainGlobals "max" = some none)
    (z6 : PySem.W.nsIn K mainGlobals "range" = some none)
    (z7 : PySem.W.nsIn K mainGlobals "reversed" = some none)
    {aKe : Addr} {nKe : Nat} {dKe : Option Addr} {sKe : Array (Option Value)} {tKe1 tKe2 tKe3 tKe4 : Tok}
    (hKe0 : PySem.W.nsIn K mainGlobals "KEPT_WORDS" = some (some (.ref aKe)))
    (hKe1 : K.lookup aKe = some ⟨.type "tuple", dKe, .seq #[.str "and" tKe1, .str "or" tKe2, .str "then" tKe3, .str "never" tKe4] nKe, sKe⟩)
    {aNt : Addr}
    (hNt0 : PySem.W.nsIn K mainGlobals "NoText" = some (some (.ref aNt)))
    (hNt1 : PySem.W.excIn K aNt [.type "ValueError", .type "Exception", .type "BaseException", .type "object"] "ValueError.__new__" = true)
    (hNt2 : PySem.W.keepIn K (.ref aNt) = true)
    (hNt3 : PySem.W.subIn K (.ref aNt) (.type "BaseException") = some true)
    (hNt4 : PySem.W.typeIn K (.ref aNt) = some (.type "type"))
    (hNt5 : PySem.W.isClsIn K aNt = true)
    (hNt6 : PySem.W.subIn K (.ref aNt) (.ref aNt) = some true)
    {aJo : Addr} {nJo : Nat} {dJo : Option Addr} {sJo : Array (Option Value)} {tJo1 tJo2 tJo3 : Tok}
    (hJo0 : PySem.W.nsIn K mainGlobals "JOINTS" = some (some (.ref aJo)))
    (hJo1 : K.lookup aJo = some ⟨.type "tuple", dJo, .seq #[.str "and" tJo1, .str "or" tJo2, .str "then" tJo3] nJo, sJo⟩)
    : ∃ fd : FuncData, (∀ (s : Shared) (v : Value), BindsTo s fd ⟨[v], []⟩ [("_law_script", v)]) ∧ ∀ base : Heap, K.In base → base.Ns mainGlobals mg → FnOk l.prog w K mg base CX0 8 fa fd ["_law_script"] (sp_law K) := by
  have F0 := fun_mk (st := s_is_name) l0 c0 k0
  have b0 := F0.binds (ps := ["text"]) fun _ _ _ _ _ _ us hl => match us, hl with | [_], _ => rfl
  have F1 := fun_mk (st := s_words) l1 c1 k1
  have b1 := F1.binds (ps := ["text"]) fun _ _ _ _ _ _ us hl => match us, hl with | [_], _ => rfl
  have F2 := fun_mk (st := s_item) l2 c2 k2
  have b2 := F2.binds (ps := ["word"]) fun _ _ _ _ _ _ us hl => match us, hl with | [_], _ => rfl
  have F3 := fun_mk (st := s_parted) l3 c3 k3
  have b3 := F3.binds (ps := ["row", "word"]) fun _ _ _ _ _ _ us hl => match us, hl with | [_, _], _ => rfl
  have F4 := fun_mk (st := s_from_left) l4 c4 k4
  have b4 := F4.binds (ps := ["word", "things"]) fun _ _ _ _ _ _ us hl => match us, hl with | [_, _], _ => rfl
  have F5 := fun_mk (st := s_thing) l5 c5 k5
  have b5 := F5.binds (ps := ["row"]) fun _ _ _ _ _ _ us hl => match us, hl with | [_], _ => rfl
  have F6 := fun_mk (st := s_row_of_ands) l6 c6 k6
  have b6 := F6.binds (ps := ["row"]) fun _ _ _ _ _ _ us hl => match us, hl with | [_], _ => rfl
  have F7 := fun_mk (st := s_row_of_ors) l7 c7 k7
  have b7 := F7.binds (ps := ["row"]) fun _ _ _ _ _ _ us hl => match us, hl with | [_], _ => rfl
  have F8 := fun_mk (st := s_statement) l8 c8 k8
  have b8 := F8.binds (ps := ["row"]) fun _ _ _ _ _ _ us hl => match us, hl with | [_], _ => rfl
  have F9 := fun_mk (st := s_read) l9 c9 k9
  have b9 := F9.binds (ps := ["text"]) fun _ _ _ _ _ _ us hl => match us, hl with | [_], _ => rfl
  have F10 := fun_mk (st := s_law_cell) l10 c10 k10
  have b10 := F10.binds (ps := ["_law_script", "_law_k"]) fun _ _ _ _ _ _ us hl => match us, hl with | [_, _], _ => rfl
  have F11 := fun_mk (st := s_law_row) l11 c11 k11
  have b11 := F11.binds (ps := ["_law_cell_here", "_law_many"]) fun _ _ _ _ _ _ us hl => match us, hl with | [_, _], _ => rfl
  have F12 := fun_mk (st := s_law_text) l12 c12 k12
  have b12 := F12.binds (ps := ["_law_row_here"]) fun _ _ _ _ _ _ us hl => match us, hl with | [_], _ => rfl
  have F13 := fun_mk (st := s_law_due) l13 c13 k13
  have b13 := F13.binds (ps := ["_law_text_here"]) fun _ _ _ _ _ _ us hl => match us, hl with | [_], _ => rfl
  have F14 := fun_mk (st := s_law_read) l14 c14 k14
  have b14 := F14.binds (ps := ["_law_text_here"]) fun _ _ _ _ _ _ us hl => match us, hl with | [_], _ => rfl
  have F15 := fun_mk (st := s_law_right) l15 c15 k15
  have b15 := F15.binds (ps := ["_law_text_here"]) fun _ _ _ _ _ _ us hl => match us, hl with | [_], _ => rfl
  have F16 := fun_mk (st := s_law) l16 c16 k16
  have b16 := F16.binds (ps := ["_law_script"]) fun _ _ _ _ _ _ us hl => match us, hl with | [_], _ => rfl
  have T : Txt w K mg := {
    g_KEPT := ⟨_, PySem.W.mg_of X G hKe0, kt_of hKe1 (.cons ⟨_, rfl⟩ (.cons ⟨_, rfl⟩ (.cons ⟨_, rfl⟩ (.cons ⟨_, rfl⟩ .nil)))) (by show 4 ≤ sizeLine; decide)⟩,
    nt := ⟨_, PySem.W.mg_of X G hNt0, hNt1, hNt2, hNt3, hNt4, hNt5, hNt6⟩,
    g_JOINTS := ⟨_, PySem.W.mg_of X G hJo0, kt_of hJo1 (.cons ⟨_, rfl⟩ (.cons ⟨_, rfl⟩ (.cons ⟨_, rfl⟩ .nil))) (by show 3 ≤ sizeLine; decide)⟩,
    n_ValueError := PySem.W.mg_none_of X G z0,
    n_all := PySem.W.mg_none_of X G z1,
    n_bool := PySem.W.mg_none_of X G z2,
    n_isinstance := PySem.W.mg_none_of X G z3,
    n_len := PySem.W.mg_none_of X G z4,
    n_max := PySem.W.mg_none_of X G z5,
    n_range := PySem.W.mg_none_of X G z6,
    n_reversed := PySem.W.mg_none_of X G z7,
    d_is_name := ⟨_, _, F0, PySem.W.mg_of X G a0, b0⟩,
    d_words := ⟨_, _, F1, PySem.W.mg_of X G a1, b1⟩,
    d_item := ⟨_, _, F2, PySem.W.mg_of X G a2, b2⟩,
    d_parted := ⟨_, _, F3, PySem.W.mg_of X G a3, b3⟩,
    d_from_left := ⟨_, _, F4, PySem.W.mg_of X G a4, b4⟩,
    d_thing := ⟨_, _, F5, PySem.W.mg_of X G a5, b5⟩,
    d_row_of_ands := ⟨_, _, F6, PySem.W.mg_of X G a6, b6⟩,
    d_row_of_ors := ⟨_, _, F7, PySem.W.mg_of X G a7, b7⟩,
    d_statement := ⟨_, _, F8, PySem.W.mg_of X G a8, b8⟩,
    d_read := ⟨_, _, F9, PySem.W.mg_of X G a9, b9⟩,
    d_law_cell := ⟨_, _, F10, PySem.W.mg_of X G a10, b10⟩,
    d_law_row := ⟨_, _, F11, PySem.W.mg_of X G a11, b11⟩,
    d_law_text := ⟨_, _, F12, PySem.W.mg_of X G a12, b12⟩,
    d_law_due := ⟨_, _, F13, PySem.W.mg_of X G a13, b13⟩,
    d_law_read := ⟨_, _, F14, PySem.W.mg_of X G a14, b14⟩,
    d_law_right := ⟨_, _, F15, PySem.W.mg_of X G a15, b15⟩,
    d_law := ⟨_, _, F16, PySem.W.mg_of X G a16, b16⟩ }
  have e := hfa.symm.trans (PySem.W.mg_of X G a16)
  cases e
  exact ⟨PySem.W.fnOf "law" "law" (defArgs s_law) (defBody s_law) (defScope s_law) .none kV16 dc16 pm16 an16 cd16 ct16, fun s v => .of_eq rfl, fun base _ _ => all_law T F16 base⟩
end Ob
open PySem PySem.W PyProof.Rows
set_option maxRecDepth 100000 in
set_option maxHeartbeats 0 in
theorem PySem.Challenge.cw_onlybuilt_k09_what_is_a_name_holds : PySem.Challenge.rw_onlybuilt_k09_what_is_a_name.Holds := by
  w_on; o_law; k_head; (case hw => w_witness2)
  k_fill
  refine L2.walk_of (l := PySem.Challenge.rw_onlybuilt_k09_what_is_a_name) (n := 63) (k := 8) (x := "_law_script") (CX := fun _ => L2.CX0) (sp := fun w => Ob.sp_law _) rfl (by decide) rfl ⟨rfl, by decide, by decide⟩ (fun w h Y => PySem.W.kIn_of Y) ?F (fun _ _ a ns hl _ hS => ⟨a, ns, rfl, hS, hl, fun _ => rfl⟩) (fun _ _ _ _ _ h => h)
  case F =>
    intro w mg fa h KX G hmg
    refine' Ob.all_mk KX G hmg ?a0 ?l0 ?c0 ?k0 ?a1 ?l1 ?c1 ?k1 ?a2 ?l2 ?c2 ?k2 ?a3 ?l3 ?c3 ?k3 ?a4 ?l4 ?c4 ?k4 ?a5 ?l5 ?c5 ?k5 ?a6 ?l6 ?c6 ?k6 ?a7 ?l7 ?c7 ?k7 ?a8 ?l8 ?c8 ?k8 ?a9 ?l9 ?c9 ?k9 ?a10 ?l10 ?c10 ?k10 ?a11 ?l11 ?c11 ?k11 ?a12 ?l12 ?c12 ?k12 ?a13 ?l13 ?c13 ?k13 ?a14 ?l14 ?c14 ?k14 ?a15 ?l15 ?c15 ?k15 ?a16 ?l16 ?c16 ?k16 ?z0 ?z1 ?z2 ?z3 ?z4 ?z5 ?z6 ?z7 ?hKe0 ?hKe1 ?hNt0 ?hNt1 ?hNt2 ?hNt3 ?hNt4 ?hNt5 ?hNt6 ?hJo0 ?hJo1
    (case a0 => k_is); (case l0 => k_is); (case c0 => k_is); (case k0 => k_is)
    (case a1 => k_is); (case l1 => k_is); (case c1 => k_is); (case k1 => k_is)
    (case a2 => k_is); (case l2 => k_is); (case c2 => k_is); (case k2 => k_is)
    (case a3 => k_is); (case l3 => k_is); (case c3 => k_is); (case k3 => k_is)
    (case a4 => k_is); (case l4 => k_is); (case c4 => k_is); (case k4 => k_is)
    (case a5 => k_is); (case l5 => k_is); (case c5 => k_is); (case k5 => k_is)
    (case a6 => k_is); (case l6 => k_is); (case c6 => k_is); (case k6 => k_is)
    (case a7 => k_is); (case l7 => k_is); (case c7 => k_is); (case k7 => k_is)
    (case a8 => k_is); (case l8 => k_is); (case c8 => k_is); (case k8 => k_is)
    (case a9 => k_is); (case l9 => k_is); (case c9 => k_is); (case k9 => k_is)
    (case a10 => k_is); (case l10 => k_is); (case c10 => k_is); (case k10 => k_is)
    (case a11 => k_is); (case l11 => k_is); (case c11 => k_is); (case k11 => k_is)
    (case a12 => k_is); (case l12 => k_is); (case c12 => k_is); (case k12 => k_is)
    (case a13 => k_is); (case l13 => k_is); (case c13 => k_is); (case k13 => k_is)
    (case a14 => k_is); (case l14 => k_is); (case c14 => k_is); (case k14 => k_is)
    (case a15 => k_is); (case l15 => k_is); (case c15 => k_is); (case k15 => k_is)
    (case a16 => k_is); (case l16 => k_is); (case c16 => k_is); (case k16 => k_is)
    (case z0 => k_is)
    (case z1 => k_is)
    (case z2 => k_is)
    (case z3 => k_is)
    (case z4 => k_is)
    (case z5 => k_is)
    (case z6 => k_is)
    (case z7 => k_is)
    (case hKe0 => k_is)
    (case hKe1 => k_is)
    (case hNt0 => k_is)
    (case hNt1 => k_exc)
    (case hNt2 => k_is)
    (case hNt3 => k_is)
    (case hNt4 => k_is)
    (case hNt5 => k_is)
    (case hNt6 => k_is)
    (case hJo0 => k_is)
    (case hJo1 => k_is)
